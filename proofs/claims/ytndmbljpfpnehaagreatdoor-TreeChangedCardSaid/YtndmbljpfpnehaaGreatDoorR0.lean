/- TreeChanged holds: a right query with a variable twice, without items, with a time below nothing, or picked as nothing is, is not right, and has no text. No condition. -/
import Derived.Test.YtndmbljpfpnehaaGreatDoorMG
namespace Go.Proofs.YtndmbljpfpnehaaGreatDoor
open Go.RowKit Go.Lib Go.Op

theorem step_append_runI {P : Program} {o : Oper} {a : Act} {w : World} {K : Act → World → Prop} {Q : Exit → Act → World → Prop} {E c : Prop} [Decidable c] (hc : c)
    (d x : Operand) (dT sT : TypeId) (hop : o.op = Op.call { callee := Callee.builtin Builtin.append, args := #[d, x], argTypes := #[dT, sT] })
    (v u : Value) (hd : a.eval d = v) (hx : a.eval x = u) {v' : Value} {w' : World} (hr : (Builtin.append_ #[dT, sT] o.type #[v, u]).run P w = .ok v' w') (hK : K (a.put o.dst v') w') :
    if c then Oper.wp P o a w K Q else E := by
  rw [if_pos hc]
  unfold Oper.wp execOp
  simp only [hop, resolve, invoke, builtin, Sem.run_bind, Sem.run_pure, Result.andThen_ok, List.map_toArray, List.map_cons, List.map_nil, hd, hx, hr]
  exact hK

theorem flat_get {α : Type} {k : Nat} (hk0 : 0 < k) : ∀ {css : List (List α)} {i : Nat} {u : α}, (∀ c ∈ css, c.length = k) → css.flatten[i]? = some u → ∃ j r cs, css[j]? = some cs ∧ cs[r]? = some u ∧ i = j * k + r
  | [], i, u, _, h => by simp at h
  | c :: css, i, u, hk, h => by
    have hc := hk c List.mem_cons_self
    rw [List.flatten_cons] at h
    by_cases hi : i < k
    · rw [List.getElem?_append_left (by omega)] at h
      exact ⟨0, i, c, rfl, h, by omega⟩
    · rw [List.getElem?_append_right (by omega), hc] at h
      obtain ⟨j, r, cs, h1, h2, h3⟩ := flat_get hk0 (fun c hc => hk c (List.mem_cons_of_mem _ hc)) h
      refine ⟨j + 1, r, cs, by simpa using h1, h2, ?_⟩
      rw [Nat.succ_mul]
      omega
/-- A row of items of one's own, from block B on, whose names lie below block N. -/
def OwnQ (W : World) (B N : Nat) (v : Value) (l : List PIt) : Prop := ∃ css : List (List Value), css.length = l.length ∧ W.ownsRow B 49 4 v l.length css.flatten ∧ (∀ c ∈ css, c.length = 4) ∧
  ∀ (j : Nat) (x : PIt), l[j]? = some x → ∃ cs, css[j]? = some cs ∧ itemD.P (fun b => N ≤ b) W cs x
theorem OwnQ.empty {W : World} {B N g : Nat} (hg : B ≤ g) (h : W.heap[g]? = some (.cells #[] 49 (0, 0))) : OwnQ W B N (.slice (some ⟨g, 0, none⟩) 0 0) [] :=
  ⟨[], rfl, ⟨rfl, .inr ⟨g, 0, #[], rfl, hg, h, Nat.le_refl _, Nat.zero_le _, rfl, rfl⟩⟩, fun c hc => (by cases hc), fun j x hj => (by simp at hj)⟩
theorem OwnQ.slice {W : World} {B N : Nat} {v : Value} {l : List PIt} (h : OwnQ W B N v l) : ∃ a c, v = .slice a l.length c := by
  obtain ⟨css, h1, h2, h3, h4⟩ := h
  rcases h2.2 with ⟨rfl, h0⟩ | ⟨g, cap, cur, rfl, _⟩
  · exact ⟨none, 0, by rw [h0]⟩
  · exact ⟨_, cap, rfl⟩
theorem OwnQ.own {W : World} {B N : Nat} {v : Value} {l : List PIt} (h : OwnQ W B N v l) : ∀ g, v.ownBlock = some g → B ≤ g ∧ g < W.heap.size := by
  obtain ⟨css, h1, h2, h3, h4⟩ := h
  intro g hg
  rcases h2.2 with ⟨rfl, h0⟩ | ⟨g', cap, cur, rfl, hb, hh, _⟩
  · cases hg
  · obtain rfl : g' = g := Option.some.inj hg
    exact ⟨hb, (Array.getElem?_eq_some_iff.1 hh).1⟩
theorem OwnQ.keep {W W' : World} {B N : Nat} {v : Value} {l : List PIt} (h : OwnQ W B N v l) {K : Nat → Prop} (hf : TFr K W W') (hK : ∀ b, K b → N ≤ b) (hv : ∀ g, v.ownBlock = some g → ¬ K g) : OwnQ W' B N v l := by
  obtain ⟨css, h1, h2, h3, h4⟩ := h
  refine ⟨css, h1, ⟨h2.1, ?_⟩, h3, fun j x hj => ?_⟩
  · rcases h2.2 with h0 | ⟨g, cap, cur, e, hb, hh, r⟩
    · exact .inl h0
    · exact .inr ⟨g, cap, cur, e, hb, (hf.block g (Array.getElem?_eq_some_iff.1 hh).1 (hv g (by rw [e]; rfl))).trans hh, r⟩
  · obtain ⟨cs, hc, hp⟩ := h4 j x hj
    exact ⟨cs, hc, itemD.keep (hf.mono (fun k _ hk => hK k hk)) hp⟩
theorem OwnQ.low {W W' : World} {B N : Nat} {v : Value} {l : List PIt} (h : OwnQ W B N v l) (hb : Below W.heap.size W W') : OwnQ W' B N v l := h.keep (TFr.of_below (K := fun _ => False) hb) (fun _ h => h.elim) (fun _ _ h => h)
/-- Items appended, wherever their cells lie. -/
theorem OwnQ.append {W : World} {B N : Nat} {v : Value} {l l2 : List PIt} (h : OwnQ W B N v l) (hNB : N ≤ B) (hB : B ≤ W.heap.size) (hl : l.length ≤ 100000) (hl2 : l2.length ≤ 100000) {A : Addr} {c : Nat} {css2 : List (List Value)} (k1 : css2.length = l2.length) (k2 : ∀ c ∈ css2, c.length = 4)
    (k3 : ∀ (j : Nat) (x : PIt), l2[j]? = some x → ∃ cs, css2[j]? = some cs ∧ itemD.P (fun b => N ≤ b) W cs x) (k4 : ∀ i u, css2.flatten[i]? = some u → W.cell? (A.add i) = some u) :
    ∃ v' w', (Builtin.append_ #[23, 23] 23 #[v, .slice (some A) l2.length c]).run Tryz.prog W = .ok v' w' ∧ OwnQ w' B N v' (l ++ l2) ∧ W.grownBy w' v.ownBlock := by
  have hown := h.own
  obtain ⟨css, h1, h2, h3, h4⟩ := h
  obtain ⟨i0, hi, hz0, hz1, hz2⟩ := info_parts itemI
  have hfl := flatK_len (k := 4) k2
  obtain ⟨v', w', hr, g2, g3, _, g5⟩ := run_append_own_at (P := Tryz.prog) W B 23 23 49 i0 _ 4 56 (by kernel_rfl) hi hz0 hz1 hz2 rfl (by decide) v l.length css.flatten h2 A l2.length c css2.flatten (by rw [hfl, k1]) k4 (fun u hu => by
    obtain ⟨cs, hcs, hu2⟩ := List.mem_flatten.1 hu
    obtain ⟨j, hj⟩ := List.getElem?_of_mem hcs
    have hjl := (List.getElem?_eq_some_iff.1 hj).1
    obtain ⟨cs', e1, e2⟩ := k3 j (l2[j]'(by omega)) (List.getElem?_eq_getElem _)
    rw [hj] at e1
    rw [← Option.some.inj e1] at e2
    exact itemD.one e2 u hu2) (by unfold maxLen; omega) (by omega) hB
  have hfr := TFr.of_grown (K := fun b => v.ownBlock = some b) g3 (fun k hk => hk)
  refine ⟨v', w', hr, ⟨css ++ css2, by simp [h1, k1], ?_, fun c hc => ?_, fun j x hj => ?_⟩, g3⟩
  · rw [List.length_append, List.flatten_append]
    exact g2
  · rcases List.mem_append.1 hc with hc | hc
    · exact h3 c hc
    · exact k2 c hc
  · have key : ∀ {cs : List Value} {y : PIt}, itemD.P (fun b => N ≤ b) W cs y → itemD.P (fun b => N ≤ b) w' cs y := fun hp => itemD.keep (hfr.mono (fun k _ hk => Nat.le_trans hNB (hown k hk).1)) hp
    by_cases hlt : j < l.length
    · rw [List.getElem?_append_left hlt] at hj
      obtain ⟨cs, hc, hp⟩ := h4 j x hj
      exact ⟨cs, by rw [List.getElem?_append_left (by omega)]; exact hc, key hp⟩
    · rw [List.getElem?_append_right (by omega)] at hj
      obtain ⟨cs, hc, hp⟩ := k3 _ x hj
      exact ⟨cs, by rw [List.getElem?_append_right (by omega), h1]; exact hc, key hp⟩
theorem OwnQ.row {W : World} {B N : Nat} {v : Value} {l : List PIt} (h : OwnQ W B N v l) : RowK itemD (fun _ => False) W v l := by
  obtain ⟨css, h1, h2, h3, h4⟩ := h
  rcases h2.2 with ⟨rfl, h0⟩ | ⟨g, cap, cur, rfl, hb, hh, hn, hc, hs, ht⟩
  · have : l = [] := List.eq_nil_of_length_eq_zero h0
    subst this
    exact RowK.nil _ _ _
  · refine ⟨_, cap, rfl, hn, fun j x hj => ?_⟩
    obtain ⟨cs, hcs, hp⟩ := h4 j x hj
    refine ⟨g, 0, cs, rfl, fun h => h, itemD.mono (fun _ h => h.elim) hp, fun r u hu => ?_⟩
    have hjl := (List.getElem?_eq_some_iff.1 hj).1
    have h6 := flat_at (k := 4) h3 hcs r u hu
    have hrl : r < 4 := by
      have := (List.getElem?_eq_some_iff.1 hu).1
      have h7 := h3 cs (List.mem_of_getElem? hcs)
      omega
    rw [← ht, List.getElem?_take] at h6
    split at h6
    · rw [cell_of_row W g (0 + j * itemD.k + r) _ 49 (0, 0) hh, Nat.zero_add]
      rw [← Array.getElem?_toList]
      exact h6
    · cases h6
/-- Names that are there lie in memory that is there. -/
theorem names_old {w : World} {v : Value} {l : List (List UInt8)} (h : RowK nameD (fun _ => False) w v l) : RowK nameD (fun b => w.heap.size ≤ b) w v l := by
  obtain ⟨a, c, e, hc, h⟩ := h
  refine ⟨a, c, e, hc, fun j x hj => ?_⟩
  obtain ⟨g, o, cs, ea, _, hp, hcl⟩ := h j x hj
  have hp' : cs = [.string (strB x)] := hp
  have := World.block_lt_of_cell? _ _ (hcl 0 _ (by rw [hp']; rfl))
  have h2 : g < w.heap.size := this
  exact ⟨g, o, cs, ea, by omega, hp, hcl⟩
theorem item_old {w : World} {cs : List Value} {x : PIt} (h : itemD.P (fun _ => False) w cs x) : itemD.P (fun b => w.heap.size ≤ b) w cs x := by
  obtain ⟨a, c, e, hr⟩ := h
  exact ⟨a, c, e, names_old hr⟩
/-- The cells of a row of items that is read. -/
theorem RowK.flat {K : Nat → Prop} {w : World} {g o n c : Nat} {l : List PIt} (h : RowK itemD K w (.slice (some ⟨g, o, none⟩) n c) l) : ∃ css : List (List Value), css.length = l.length ∧ (∀ c ∈ css, c.length = 4) ∧ (∀ (j : Nat) (x : PIt), l[j]? = some x → ∃ cs, css[j]? = some cs ∧ itemD.P K w cs x) ∧ ∀ i u, css.flatten[i]? = some u → w.cell? ((⟨g, o, none⟩ : Addr).add i) = some u := by
  obtain ⟨a, c', e, _, h⟩ := h
  injection e with e1 e2 e3
  subst e1
  have hall : ∀ j, j < l.length → ∃ cs : List Value, (∀ x, l[j]? = some x → itemD.P K w cs x) ∧ cs.length = 4 ∧ ∀ r u, cs[r]? = some u → w.cell? ⟨g, o + j * 4 + r, none⟩ = some u := fun j hj => by
    obtain ⟨g', o', cs, ea, _, hp, hc⟩ := h j l[j] (List.getElem?_eq_getElem hj)
    have ea := Option.some.inj ea
    injection ea with e4 e5
    subst e4 e5
    refine ⟨cs, fun x hx => ?_, itemD.len hp, hc⟩
    rw [List.getElem?_eq_getElem hj] at hx
    rw [← Option.some.inj hx]
    exact hp
  obtain ⟨q, hq⟩ := Go.Deep.choose_lt hall
  have hk : ∀ c ∈ (List.range l.length).map q, c.length = 4 := fun c hc => by
    obtain ⟨j, hj, rfl⟩ := List.mem_map.1 hc
    exact (hq j (List.mem_range.1 hj)).2.1
  refine ⟨(List.range l.length).map q, by simp, hk, fun j x hj => ?_, fun i u hu => ?_⟩
  · have hjl := (List.getElem?_eq_some_iff.1 hj).1
    exact ⟨q j, by rw [List.getElem?_map, List.getElem?_range hjl]; rfl, (hq j hjl).1 x hj⟩
  · obtain ⟨j, r, cs, h1, h2, rfl⟩ := flat_get (by decide) hk hu
    have hjl : j < l.length := by
      have := (List.getElem?_eq_some_iff.1 h1).1
      simpa using this
    rw [List.getElem?_map, List.getElem?_range hjl] at h1
    have h1 : q j = cs := by simpa using h1
    rw [← h1] at h2
    have h3 := (hq j hjl).2.2 r u h2
    have e : ((⟨g, o, none⟩ : Addr).add (j * 4 + r)) = ⟨g, o + j * 4 + r, none⟩ := by
      unfold Addr.add
      split
      · rename_i h0
        congr 1
        omega
      · congr 1
        show o + (j * 4 + r) = o + j * 4 + r
        omega
    rw [e]
    exact h3

/-! Queries that are not right. -/
theorem bad_its (p : PQu) : rightQ ⟨[], p.prs, p.within, p.by_, p.pick⟩ = false := rfl
theorem bad_within (p : PQu) : rightQ ⟨p.its, p.prs, -1, p.by_, p.pick⟩ = false := by
  unfold rightQ
  simp
theorem bad_pick (p : PQu) : rightQ ⟨p.its, p.prs, p.within, p.by_, 4⟩ = false := by
  unfold rightQ
  simp
theorem bad_twice (p : PQu) {i : PIt} (hi : i ∈ p.its) : rightQ ⟨p.its ++ [i], p.prs, p.within, p.by_, p.pick⟩ = false := by
  have h : rightIs (p.its ++ [i]) = false := by
    have hu : unlikeB ((p.its ++ [i]).map (·.x)) = false := by
      unfold unlikeB
      rw [Bool.and_eq_false_iff]
      right
      rw [decide_eq_false_iff_not, List.map_append, List.nodup_append]
      rintro ⟨_, _, h⟩
      exact h i.x (List.mem_map.2 ⟨i, hi, rfl⟩) i.x (by simp) rfl
    cases hp : p.its with
    | nil => rw [hp] at hi; cases hi
    | cons y r =>
      rw [hp] at hu
      unfold rightIs
      rw [List.cons_append] at hu ⊢
      dsimp only
      rw [hu]
      simp
  unfold rightQ
  rw [h]
  rfl
theorem print_bad {q : PQu} (h : rightQ q = false) : printQ q = [] := by
  unfold printQ
  rw [h]
  rfl
end Go.Proofs.YtndmbljpfpnehaaGreatDoor
namespace Go.Proofs.YtndmbljpfpnehaaGreatDoor
open Go.RowKit Go.Lib Go.Op

/-- The four queries that were changed, in memory. -/
structure ChW (w3 w9 : World) (p : PQu) (it : PIt) (a : Option Addr) (q c : Nat) (b : Option Addr) (r e : Nat) (a9 : Option Addr) (l9 c9 : Nat) : Prop where
  low : Below w3.heap.size w3 w9
  A : Blk w9 w3.heap.size #[.slice none 0 0, .slice b r e, .int .i64 p.within, .string (strB p.by_), .int .i64 p.pick] 26
  B : Blk w9 (w3.heap.size + 1) #[.slice a q c, .slice b r e, .int .i64 (-1), .string (strB p.by_), .int .i64 p.pick] 26
  C : Blk w9 (w3.heap.size + 2) #[.slice a q c, .slice b r e, .int .i64 p.within, .string (strB p.by_), .int .i64 4] 26
  D : Blk w9 (w3.heap.size + 3) #[.slice a9 l9 c9, .slice b r e, .int .i64 p.within, .string (strB p.by_), .int .i64 p.pick] 26
  at_ : QuAt (fun _ => False) w9 a q c b r e p
  row : RowK itemD (fun _ => False) w9 (.slice a9 l9 c9) (p.its ++ [it])
  mem : it ∈ p.its
  bd : QuB p
section
variable {w3 w9 W : World} {p : PQu} {it : PIt} {a : Option Addr} {q c : Nat} {b : Option Addr} {r e : Nat} {a9 : Option Addr} {l9 c9 : Nat}
theorem ChW.cellsA (h : ChW w3 w9 p it a q c b r e a9 l9 c9) (hb : Below w9.heap.size w9 W) : W.cell? ⟨w3.heap.size, 0, none⟩ = some (.slice none 0 0) ∧ W.cell? ⟨w3.heap.size, 1, none⟩ = some (.slice b r e) ∧ W.cell? ⟨w3.heap.size, 2, none⟩ = some (.int .i64 p.within) ∧ W.cell? ⟨w3.heap.size, 3, none⟩ = some (.string (strB p.by_)) ∧ W.cell? ⟨w3.heap.size, 4, none⟩ = some (.int .i64 p.pick) :=
  ⟨tcell_of_blk (h.A.low hb) rfl, tcell_of_blk (h.A.low hb) rfl, tcell_of_blk (h.A.low hb) rfl, tcell_of_blk (h.A.low hb) rfl, tcell_of_blk (h.A.low hb) rfl⟩
theorem ChW.atA (h : ChW w3 w9 p it a q c b r e a9 l9 c9) (hb : Below w9.heap.size w9 W) : QuAt (fun _ => False) W none 0 0 b r e ⟨[], p.prs, p.within, p.by_, p.pick⟩ := ⟨RowK.nil _ _ _, h.at_.2.low hb⟩
theorem ChW.bdA (h : ChW w3 w9 p it a q c b r e a9 l9 c9) : QuB ⟨[], p.prs, p.within, p.by_, p.pick⟩ := ⟨fun i hi => (by cases hi), h.bd.2.1, h.bd.2.2⟩
theorem ChW.rightA (h : ChW w3 w9 p it a q c b r e a9 l9 c9) (hb : Below w9.heap.size w9 W) : Calls Tryz.prog 21 #[.agg #[.slice none 0 0, .slice b r e, .int .i64 p.within, .string (strB p.by_), .int .i64 p.pick]] W fun e w' => e = .returned (.bool false) ∧ Below W.heap.size W w' := by
  have h1 := right_calls (h.atA hb) h.bdA
  rw [bad_its p] at h1
  exact h1
theorem ChW.printA (h : ChW w3 w9 p it a q c b r e a9 l9 c9) (hp : PVars w3) (hb : Below w9.heap.size w9 W) : Calls Tryz.prog 23 #[.agg #[.slice none 0 0, .slice b r e, .int .i64 p.within, .string (strB p.by_), .int .i64 p.pick]] W fun e w' => e = .returned (.string ⟨#[]⟩) ∧ Below W.heap.size W w' := by
  have h1 := print_calls (h.atA hb) h.bdA ((hp.below h.low).below hb)
  rw [print_bad (bad_its p)] at h1
  exact h1
theorem ChW.cellsB (h : ChW w3 w9 p it a q c b r e a9 l9 c9) (hb : Below w9.heap.size w9 W) : W.cell? ⟨w3.heap.size + 1, 0, none⟩ = some (.slice a q c) ∧ W.cell? ⟨w3.heap.size + 1, 1, none⟩ = some (.slice b r e) ∧ W.cell? ⟨w3.heap.size + 1, 2, none⟩ = some (.int .i64 (-1)) ∧ W.cell? ⟨w3.heap.size + 1, 3, none⟩ = some (.string (strB p.by_)) ∧ W.cell? ⟨w3.heap.size + 1, 4, none⟩ = some (.int .i64 p.pick) :=
  ⟨tcell_of_blk (h.B.low hb) rfl, tcell_of_blk (h.B.low hb) rfl, tcell_of_blk (h.B.low hb) rfl, tcell_of_blk (h.B.low hb) rfl, tcell_of_blk (h.B.low hb) rfl⟩
theorem ChW.atB (h : ChW w3 w9 p it a q c b r e a9 l9 c9) (hb : Below w9.heap.size w9 W) : QuAt (fun _ => False) W a q c b r e ⟨p.its, p.prs, -1, p.by_, p.pick⟩ := ⟨h.at_.1.low hb, h.at_.2.low hb⟩
theorem ChW.bdB (h : ChW w3 w9 p it a q c b r e a9 l9 c9) : QuB ⟨p.its, p.prs, -1, p.by_, p.pick⟩ := ⟨h.bd.1, h.bd.2.1, h.bd.2.2⟩
theorem ChW.rightB (h : ChW w3 w9 p it a q c b r e a9 l9 c9) (hb : Below w9.heap.size w9 W) : Calls Tryz.prog 21 #[.agg #[.slice a q c, .slice b r e, .int .i64 (-1), .string (strB p.by_), .int .i64 p.pick]] W fun e w' => e = .returned (.bool false) ∧ Below W.heap.size W w' := by
  have h1 := right_calls (h.atB hb) h.bdB
  rw [bad_within p] at h1
  exact h1
theorem ChW.printB (h : ChW w3 w9 p it a q c b r e a9 l9 c9) (hp : PVars w3) (hb : Below w9.heap.size w9 W) : Calls Tryz.prog 23 #[.agg #[.slice a q c, .slice b r e, .int .i64 (-1), .string (strB p.by_), .int .i64 p.pick]] W fun e w' => e = .returned (.string ⟨#[]⟩) ∧ Below W.heap.size W w' := by
  have h1 := print_calls (h.atB hb) h.bdB ((hp.below h.low).below hb)
  rw [print_bad (bad_within p)] at h1
  exact h1
theorem ChW.cellsC (h : ChW w3 w9 p it a q c b r e a9 l9 c9) (hb : Below w9.heap.size w9 W) : W.cell? ⟨w3.heap.size + 2, 0, none⟩ = some (.slice a q c) ∧ W.cell? ⟨w3.heap.size + 2, 1, none⟩ = some (.slice b r e) ∧ W.cell? ⟨w3.heap.size + 2, 2, none⟩ = some (.int .i64 p.within) ∧ W.cell? ⟨w3.heap.size + 2, 3, none⟩ = some (.string (strB p.by_)) ∧ W.cell? ⟨w3.heap.size + 2, 4, none⟩ = some (.int .i64 4) :=
  ⟨tcell_of_blk (h.C.low hb) rfl, tcell_of_blk (h.C.low hb) rfl, tcell_of_blk (h.C.low hb) rfl, tcell_of_blk (h.C.low hb) rfl, tcell_of_blk (h.C.low hb) rfl⟩
theorem ChW.atC (h : ChW w3 w9 p it a q c b r e a9 l9 c9) (hb : Below w9.heap.size w9 W) : QuAt (fun _ => False) W a q c b r e ⟨p.its, p.prs, p.within, p.by_, 4⟩ := ⟨h.at_.1.low hb, h.at_.2.low hb⟩
theorem ChW.bdC (h : ChW w3 w9 p it a q c b r e a9 l9 c9) : QuB ⟨p.its, p.prs, p.within, p.by_, 4⟩ := ⟨h.bd.1, h.bd.2.1, h.bd.2.2⟩
theorem ChW.rightC (h : ChW w3 w9 p it a q c b r e a9 l9 c9) (hb : Below w9.heap.size w9 W) : Calls Tryz.prog 21 #[.agg #[.slice a q c, .slice b r e, .int .i64 p.within, .string (strB p.by_), .int .i64 4]] W fun e w' => e = .returned (.bool false) ∧ Below W.heap.size W w' := by
  have h1 := right_calls (h.atC hb) h.bdC
  rw [bad_pick p] at h1
  exact h1
theorem ChW.printC (h : ChW w3 w9 p it a q c b r e a9 l9 c9) (hp : PVars w3) (hb : Below w9.heap.size w9 W) : Calls Tryz.prog 23 #[.agg #[.slice a q c, .slice b r e, .int .i64 p.within, .string (strB p.by_), .int .i64 4]] W fun e w' => e = .returned (.string ⟨#[]⟩) ∧ Below W.heap.size W w' := by
  have h1 := print_calls (h.atC hb) h.bdC ((hp.below h.low).below hb)
  rw [print_bad (bad_pick p)] at h1
  exact h1
theorem ChW.cellsD (h : ChW w3 w9 p it a q c b r e a9 l9 c9) (hb : Below w9.heap.size w9 W) : W.cell? ⟨w3.heap.size + 3, 0, none⟩ = some (.slice a9 l9 c9) ∧ W.cell? ⟨w3.heap.size + 3, 1, none⟩ = some (.slice b r e) ∧ W.cell? ⟨w3.heap.size + 3, 2, none⟩ = some (.int .i64 p.within) ∧ W.cell? ⟨w3.heap.size + 3, 3, none⟩ = some (.string (strB p.by_)) ∧ W.cell? ⟨w3.heap.size + 3, 4, none⟩ = some (.int .i64 p.pick) :=
  ⟨tcell_of_blk (h.D.low hb) rfl, tcell_of_blk (h.D.low hb) rfl, tcell_of_blk (h.D.low hb) rfl, tcell_of_blk (h.D.low hb) rfl, tcell_of_blk (h.D.low hb) rfl⟩
theorem ChW.atD (h : ChW w3 w9 p it a q c b r e a9 l9 c9) (hb : Below w9.heap.size w9 W) : QuAt (fun _ => False) W a9 l9 c9 b r e ⟨p.its ++ [it], p.prs, p.within, p.by_, p.pick⟩ := ⟨h.row.low hb, h.at_.2.low hb⟩
theorem ChW.bdD (h : ChW w3 w9 p it a q c b r e a9 l9 c9) : QuB ⟨p.its ++ [it], p.prs, p.within, p.by_, p.pick⟩ := ⟨fun i hi => (by
    rcases List.mem_append.1 hi with hi | hi
    · exact h.bd.1 i hi
    · rw [List.mem_singleton.1 hi]
      exact h.bd.1 it h.mem), h.bd.2.1, h.bd.2.2⟩
theorem ChW.rightD (h : ChW w3 w9 p it a q c b r e a9 l9 c9) (hb : Below w9.heap.size w9 W) : Calls Tryz.prog 21 #[.agg #[.slice a9 l9 c9, .slice b r e, .int .i64 p.within, .string (strB p.by_), .int .i64 p.pick]] W fun e w' => e = .returned (.bool false) ∧ Below W.heap.size W w' := by
  have h1 := right_calls (h.atD hb) h.bdD
  rw [bad_twice p h.mem] at h1
  exact h1
theorem ChW.printD (h : ChW w3 w9 p it a q c b r e a9 l9 c9) (hp : PVars w3) (hb : Below w9.heap.size w9 W) : Calls Tryz.prog 23 #[.agg #[.slice a9 l9 c9, .slice b r e, .int .i64 p.within, .string (strB p.by_), .int .i64 p.pick]] W fun e w' => e = .returned (.string ⟨#[]⟩) ∧ Below W.heap.size W w' := by
  have h1 := print_calls (h.atD hb) h.bdD ((hp.below h.low).below hb)
  rw [print_bad (bad_twice p h.mem)] at h1
  exact h1
end
set_option maxHeartbeats 8000000 in
set_option maxRecDepth 100000 in
theorem tchanged_walk (w : World) (hv : TVars w) (hp : PVars w) {a b : Option Addr} {q c r e : Nat} {p : PQu} (h : QuAt (fun _ => False) w a q c b r e p) (hl : QLn p) (t : Int) (ht : 0 ≤ t ∧ t ≤ 255) :
    Calls Tryz.prog 8 #[.agg #[.slice a q c, .slice b r e, .int .i64 p.within, .string (strB p.by_), .int .i64 p.pick], .int .u8 t] w fun e w' => e = .returned (.bool true) ∧ Below w.heap.size w w' := by
  have hb0 := (Below.refl w.heap.size w).alloc (Nat.le_refl _) (.cells #[.slice a q c, .slice b r e, .int .i64 p.within, .string (strB p.by_), .int .i64 p.pick] 26)
  have HX := Lib.hid (Blk.new w #[.slice a q c, .slice b r e, .int .i64 p.within, .string (strB p.by_), .int .i64 p.pick] 26)
  have HH := Lib.hid (thead_calls (hv.below hb0) (hp.below hb0))
  have HB0 := Lib.hid hb0
  have HQ := Lib.hid h
  have HL := Lib.hid hl
  have HP0 := Lib.hid hp
  clear hv hp h hl hb0
  go_enter Tryz.func8, Tryz.ntmps8
  go_wp2_with fail
  with_reducible refine HH.out.mono ?_
  rintro e1 w1 ⟨rfl, hb1⟩
  have HB1 := Lib.hid (HB0.out.trans (hb1.mono HB0.out.size))
  have X1 := Lib.hid (HX.out.low hb1)
  have x0 := tcell_of_blk X1.out (k := 0) rfl
  have x1 := tcell_of_blk X1.out (k := 1) rfl
  have x2 := tcell_of_blk X1.out (k := 2) rfl
  have x3 := tcell_of_blk X1.out (k := 3) rfl
  have x4 := tcell_of_blk X1.out (k := 4) rfl
  have HG := Lib.hid (great_calls (w := w1) ⟨HQ.out.1.low HB1.out, HQ.out.2.low HB1.out⟩ HL.out)
  clear hb1 HH HX HB0
  go_wp2_with fail
  with_reducible refine HG.out.mono ?_
  rintro e2 w2 ⟨g, rfl, hsm, hb2⟩
  have HB2 := Lib.hid (HB1.out.trans (hb2.mono HB1.out.size))
  have X2 := Lib.hid (X1.out.low hb2)
  clear hb2 HG X1 x0 x1 x2 x3 x4
  cases g with
  | true =>
    clear hsm
    go_wp2
    go_ret
    exact ⟨rfl, HB2.out⟩
  | false =>
    have HS := Lib.hid (hsm rfl)
    clear hsm
    have x0 := tcell_of_blk X2.out (k := 0) rfl
    have x1 := tcell_of_blk X2.out (k := 1) rfl
    have x2 := tcell_of_blk X2.out (k := 2) rfl
    have x3 := tcell_of_blk X2.out (k := 3) rfl
    have x4 := tcell_of_blk X2.out (k := 4) rfl
    have hr := right_calls (w := w2) (p := p) (K := fun _ => False) ⟨HQ.out.1.low HB2.out, HQ.out.2.low HB2.out⟩ HS.out.bd
    obtain ⟨z, hz⟩ : ∃ z, rightQ p = z := ⟨_, rfl⟩
    rw [hz] at hr
    have HR := Lib.hid hr
    have HZ := Lib.hid hz
    clear hr hz
    go_wp2_with fail
    with_reducible refine HR.out.mono ?_
    rintro e3 w3 ⟨rfl, hb3⟩
    have HB3 := Lib.hid (HB2.out.trans (hb3.mono HB2.out.size))
    have X3 := Lib.hid (X2.out.low hb3)
    clear hb3 HR X2 x0 x1 x2 x3 x4
    cases z with
    | false =>
      go_wp2
      go_ret
      exact ⟨rfl, HB3.out⟩
    | true =>
      obtain ⟨i0, rest, hits, _⟩ := right_first HZ.out
      have hlen := HQ.out.1.len
      have hq0 : 0 < q := by
        rw [hits] at hlen
        simp at hlen
        omega
      have hq6 : q ≤ 3000 := by
        have := HS.out.n1
        omega
      obtain ⟨kk, hkk⟩ : ∃ kk : Nat, t % (q : Int) = kk := ⟨(t % (q : Int)).toNat, by have := Int.emod_nonneg t (show (q : Int) ≠ 0 by omega); omega⟩
      have hkq : kk < q := by
        have := Int.emod_lt_of_pos t (show (0 : Int) < q by omega)
        omega
      have htm : Int.tmod t (q : Int) = kk := by rw [Int.tmod_eq_emod_of_nonneg ht.1, hkk]
      have hwr : IntKind.i64.wrap t = t := IntWalk.i64_in _ (by omega)
      have hki : (0 : Int) ≤ (kk : Int) ∧ (kk : Int) < (q : Int) := by omega
      have hqz : ((q : Int) == 0) = false := by rw [beq_eq_false_iff_ne]; omega
      obtain ⟨it, hit⟩ : ∃ it, p.its[kk]? = some it := ⟨_, List.getElem?_eq_getElem (by omega)⟩
      obtain ⟨g, o, a2, c2, rfl, d0, d1, d2, d3, hrn⟩ := (HQ.out.1.low HB3.out).itemAt hit
      obtain ⟨m2, hm2⟩ : ∃ m2, it.ns.length = m2 := ⟨_, rfl⟩
      rw [hm2] at d1 hrn
      have HPV := Lib.hid (HP0.out.below HB3.out)
      have HIT := Lib.hid (And.intro hit hrn)
      have HM2 := Lib.hid hm2
      have x0 := tcell_of_blk X3.out (k := 0) rfl
      have x1 := tcell_of_blk X3.out (k := 1) rfl
      have x2 := tcell_of_blk X3.out (k := 2) rfl
      have x3 := tcell_of_blk X3.out (k := 3) rfl
      have x4 := tcell_of_blk X3.out (k := 4) rfl
      have n1 := (Below.refl w3.heap.size w3).alloc (Nat.le_refl _) (.cells #[.slice none 0 0, .slice b r e, .int .i64 p.within, .string (strB p.by_), .int .i64 p.pick] 26)
      have n2 := n1.alloc n1.size (.cells #[.slice (some ⟨g, o, none⟩) q c, .slice b r e, .int .i64 (-1), .string (strB p.by_), .int .i64 p.pick] 26)
      have n3 := n2.alloc n2.size (.cells #[.slice (some ⟨g, o, none⟩) q c, .slice b r e, .int .i64 p.within, .string (strB p.by_), .int .i64 4] 26)
      have n4 := n3.alloc n3.size (.cells #[.slice (some ⟨g, o, none⟩) q c, .slice b r e, .int .i64 p.within, .string (strB p.by_), .int .i64 p.pick] 26)
      have HN4 := Lib.hid n4
      have y1 := X3.out.low n1
      have y2 := X3.out.low n2
      have y3 := X3.out.low n3
      have y4 := X3.out.low n4
      have m10 := tcell_of_blk y1 (k := 0) rfl
      have m11 := tcell_of_blk y1 (k := 1) rfl
      have m12 := tcell_of_blk y1 (k := 2) rfl
      have m13 := tcell_of_blk y1 (k := 3) rfl
      have m14 := tcell_of_blk y1 (k := 4) rfl
      have m20 := tcell_of_blk y2 (k := 0) rfl
      have m21 := tcell_of_blk y2 (k := 1) rfl
      have m22 := tcell_of_blk y2 (k := 2) rfl
      have m23 := tcell_of_blk y2 (k := 3) rfl
      have m24 := tcell_of_blk y2 (k := 4) rfl
      have m30 := tcell_of_blk y3 (k := 0) rfl
      have m31 := tcell_of_blk y3 (k := 1) rfl
      have m32 := tcell_of_blk y3 (k := 2) rfl
      have m33 := tcell_of_blk y3 (k := 3) rfl
      have m34 := tcell_of_blk y3 (k := 4) rfl
      have bA : Blk ((((w3.alloc (.cells #[.slice none 0 0, .slice b r e, .int .i64 p.within, .string (strB p.by_), .int .i64 p.pick] 26)).alloc (.cells #[.slice (some ⟨g, o, none⟩) q c, .slice b r e, .int .i64 (-1), .string (strB p.by_), .int .i64 p.pick] 26)).alloc (.cells #[.slice (some ⟨g, o, none⟩) q c, .slice b r e, .int .i64 p.within, .string (strB p.by_), .int .i64 4] 26)).alloc (.cells #[.slice (some ⟨g, o, none⟩) q c, .slice b r e, .int .i64 p.within, .string (strB p.by_), .int .i64 p.pick] 26)) w3.heap.size #[.slice none 0 0, .slice b r e, .int .i64 p.within, .string (strB p.by_), .int .i64 p.pick] 26 := ((((Blk.new w3 #[.slice none 0 0, .slice b r e, .int .i64 p.within, .string (strB p.by_), .int .i64 p.pick] 26).low ((Below.refl _ _).alloc (Nat.le_refl _) (.cells #[.slice (some ⟨g, o, none⟩) q c, .slice b r e, .int .i64 (-1), .string (strB p.by_), .int .i64 p.pick] 26))).low ((Below.refl _ _).alloc (Nat.le_refl _) (.cells #[.slice (some ⟨g, o, none⟩) q c, .slice b r e, .int .i64 p.within, .string (strB p.by_), .int .i64 4] 26))).low ((Below.refl _ _).alloc (Nat.le_refl _) (.cells #[.slice (some ⟨g, o, none⟩) q c, .slice b r e, .int .i64 p.within, .string (strB p.by_), .int .i64 p.pick] 26)))
      have bB : Blk ((((w3.alloc (.cells #[.slice none 0 0, .slice b r e, .int .i64 p.within, .string (strB p.by_), .int .i64 p.pick] 26)).alloc (.cells #[.slice (some ⟨g, o, none⟩) q c, .slice b r e, .int .i64 (-1), .string (strB p.by_), .int .i64 p.pick] 26)).alloc (.cells #[.slice (some ⟨g, o, none⟩) q c, .slice b r e, .int .i64 p.within, .string (strB p.by_), .int .i64 4] 26)).alloc (.cells #[.slice (some ⟨g, o, none⟩) q c, .slice b r e, .int .i64 p.within, .string (strB p.by_), .int .i64 p.pick] 26)) (w3.heap.size + 1) #[.slice (some ⟨g, o, none⟩) q c, .slice b r e, .int .i64 (-1), .string (strB p.by_), .int .i64 p.pick] 26 := by
        have h := ((Blk.new (w3.alloc (.cells #[.slice none 0 0, .slice b r e, .int .i64 p.within, .string (strB p.by_), .int .i64 p.pick] 26)) #[.slice (some ⟨g, o, none⟩) q c, .slice b r e, .int .i64 (-1), .string (strB p.by_), .int .i64 p.pick] 26).low ((Below.refl _ _).alloc (Nat.le_refl _) (.cells #[.slice (some ⟨g, o, none⟩) q c, .slice b r e, .int .i64 p.within, .string (strB p.by_), .int .i64 4] 26))).low ((Below.refl _ _).alloc (Nat.le_refl _) (.cells #[.slice (some ⟨g, o, none⟩) q c, .slice b r e, .int .i64 p.within, .string (strB p.by_), .int .i64 p.pick] 26))
        rw [show (w3.alloc (.cells #[.slice none 0 0, .slice b r e, .int .i64 p.within, .string (strB p.by_), .int .i64 p.pick] 26)).heap.size = w3.heap.size + 1 by simp] at h
        exact h
      have bC : Blk ((((w3.alloc (.cells #[.slice none 0 0, .slice b r e, .int .i64 p.within, .string (strB p.by_), .int .i64 p.pick] 26)).alloc (.cells #[.slice (some ⟨g, o, none⟩) q c, .slice b r e, .int .i64 (-1), .string (strB p.by_), .int .i64 p.pick] 26)).alloc (.cells #[.slice (some ⟨g, o, none⟩) q c, .slice b r e, .int .i64 p.within, .string (strB p.by_), .int .i64 4] 26)).alloc (.cells #[.slice (some ⟨g, o, none⟩) q c, .slice b r e, .int .i64 p.within, .string (strB p.by_), .int .i64 p.pick] 26)) (w3.heap.size + 2) #[.slice (some ⟨g, o, none⟩) q c, .slice b r e, .int .i64 p.within, .string (strB p.by_), .int .i64 4] 26 := by
        have h := (Blk.new ((w3.alloc (.cells #[.slice none 0 0, .slice b r e, .int .i64 p.within, .string (strB p.by_), .int .i64 p.pick] 26)).alloc (.cells #[.slice (some ⟨g, o, none⟩) q c, .slice b r e, .int .i64 (-1), .string (strB p.by_), .int .i64 p.pick] 26)) #[.slice (some ⟨g, o, none⟩) q c, .slice b r e, .int .i64 p.within, .string (strB p.by_), .int .i64 4] 26).low ((Below.refl _ _).alloc (Nat.le_refl _) (.cells #[.slice (some ⟨g, o, none⟩) q c, .slice b r e, .int .i64 p.within, .string (strB p.by_), .int .i64 p.pick] 26))
        rw [show ((w3.alloc (.cells #[.slice none 0 0, .slice b r e, .int .i64 p.within, .string (strB p.by_), .int .i64 p.pick] 26)).alloc (.cells #[.slice (some ⟨g, o, none⟩) q c, .slice b r e, .int .i64 (-1), .string (strB p.by_), .int .i64 p.pick] 26)).heap.size = w3.heap.size + 2 by simp] at h
        exact h
      have bD : Blk ((((w3.alloc (.cells #[.slice none 0 0, .slice b r e, .int .i64 p.within, .string (strB p.by_), .int .i64 p.pick] 26)).alloc (.cells #[.slice (some ⟨g, o, none⟩) q c, .slice b r e, .int .i64 (-1), .string (strB p.by_), .int .i64 p.pick] 26)).alloc (.cells #[.slice (some ⟨g, o, none⟩) q c, .slice b r e, .int .i64 p.within, .string (strB p.by_), .int .i64 4] 26)).alloc (.cells #[.slice (some ⟨g, o, none⟩) q c, .slice b r e, .int .i64 p.within, .string (strB p.by_), .int .i64 p.pick] 26)) (w3.heap.size + 3) #[.slice (some ⟨g, o, none⟩) q c, .slice b r e, .int .i64 p.within, .string (strB p.by_), .int .i64 p.pick] 26 := by
        have h := Blk.new (((w3.alloc (.cells #[.slice none 0 0, .slice b r e, .int .i64 p.within, .string (strB p.by_), .int .i64 p.pick] 26)).alloc (.cells #[.slice (some ⟨g, o, none⟩) q c, .slice b r e, .int .i64 (-1), .string (strB p.by_), .int .i64 p.pick] 26)).alloc (.cells #[.slice (some ⟨g, o, none⟩) q c, .slice b r e, .int .i64 p.within, .string (strB p.by_), .int .i64 4] 26)) #[.slice (some ⟨g, o, none⟩) q c, .slice b r e, .int .i64 p.within, .string (strB p.by_), .int .i64 p.pick] 26
        rw [show (((w3.alloc (.cells #[.slice none 0 0, .slice b r e, .int .i64 p.within, .string (strB p.by_), .int .i64 p.pick] 26)).alloc (.cells #[.slice (some ⟨g, o, none⟩) q c, .slice b r e, .int .i64 (-1), .string (strB p.by_), .int .i64 p.pick] 26)).alloc (.cells #[.slice (some ⟨g, o, none⟩) q c, .slice b r e, .int .i64 p.within, .string (strB p.by_), .int .i64 4] 26)).heap.size = w3.heap.size + 3 by simp] at h
        exact h
      have HBL := Lib.hid (And.intro bA (And.intro bB (And.intro bC bD)))
      clear hits hlen hit hrn hm2 bA bB bC bD
      have hb4 : Below ((((w3.alloc (.cells #[.slice none 0 0, .slice b r e, .int .i64 p.within, .string (strB p.by_), .int .i64 p.pick] 26)).alloc (.cells #[.slice (some ⟨g, o, none⟩) q c, .slice b r e, .int .i64 (-1), .string (strB p.by_), .int .i64 p.pick] 26)).alloc (.cells #[.slice (some ⟨g, o, none⟩) q c, .slice b r e, .int .i64 p.within, .string (strB p.by_), .int .i64 4] 26)).alloc (.cells #[.slice (some ⟨g, o, none⟩) q c, .slice b r e, .int .i64 p.within, .string (strB p.by_), .int .i64 p.pick] 26)).heap.size ((((w3.alloc (.cells #[.slice none 0 0, .slice b r e, .int .i64 p.within, .string (strB p.by_), .int .i64 p.pick] 26)).alloc (.cells #[.slice (some ⟨g, o, none⟩) q c, .slice b r e, .int .i64 (-1), .string (strB p.by_), .int .i64 p.pick] 26)).alloc (.cells #[.slice (some ⟨g, o, none⟩) q c, .slice b r e, .int .i64 p.within, .string (strB p.by_), .int .i64 4] 26)).alloc (.cells #[.slice (some ⟨g, o, none⟩) q c, .slice b r e, .int .i64 p.within, .string (strB p.by_), .int .i64 p.pick] 26)) ((((w3.alloc (.cells #[.slice none 0 0, .slice b r e, .int .i64 p.within, .string (strB p.by_), .int .i64 p.pick] 26)).alloc (.cells #[.slice (some ⟨g, o, none⟩) q c, .slice b r e, .int .i64 (-1), .string (strB p.by_), .int .i64 p.pick] 26)).alloc (.cells #[.slice (some ⟨g, o, none⟩) q c, .slice b r e, .int .i64 p.within, .string (strB p.by_), .int .i64 4] 26)).alloc (.cells #[.slice (some ⟨g, o, none⟩) q c, .slice b r e, .int .i64 p.within, .string (strB p.by_), .int .i64 p.pick] 26)).drew := vbelow_drew (Below.refl _ _)
      have HB4d := Lib.hid hb4
      have u0 : ((((w3.alloc (.cells #[.slice none 0 0, .slice b r e, .int .i64 p.within, .string (strB p.by_), .int .i64 p.pick] 26)).alloc (.cells #[.slice (some ⟨g, o, none⟩) q c, .slice b r e, .int .i64 (-1), .string (strB p.by_), .int .i64 p.pick] 26)).alloc (.cells #[.slice (some ⟨g, o, none⟩) q c, .slice b r e, .int .i64 p.within, .string (strB p.by_), .int .i64 4] 26)).alloc (.cells #[.slice (some ⟨g, o, none⟩) q c, .slice b r e, .int .i64 p.within, .string (strB p.by_), .int .i64 p.pick] 26)).drew.cell? ⟨w.heap.size, 0, none⟩ = some (.slice (some ⟨g, o, none⟩) q c) := tcell_of_blk (y4.low hb4) (k := 0) rfl
      have e0 := tkeep n4 d0
      have e1 := tkeep n4 d1
      have e2 := tkeep n4 d2
      have e3 := tkeep n4 d3
      have u1 := tkeep hb4 e0
      have u2 := tkeep hb4 e1
      have u3 := tkeep hb4 e2
      have u4 := tkeep hb4 e3
      have HLT := Lib.hid (And.intro X3.out.lt (World.block_lt_of_cell? _ _ d0))
      clear hb4 d0 d1 d2 d3
      go_wp2_with fail
      clear m10 m11 m12 m13 m14 m20 m21 m22 m23 m24 m30 m31 m32 m33 m34 y1 y2 y3
      refine wp_region_held_drew (S := fun W => W.cell? ⟨w.heap.size, 0, none⟩ = some (.slice (some ⟨g, o, none⟩) q c) ∧ W.cell? ⟨g, o + kk * 4, none⟩ = some (.bool it.no) ∧ W.cell? ⟨g, o + kk * 4 + 1, none⟩ = some (.slice a2 m2 c2) ∧ W.cell? ⟨g, o + kk * 4 + 2, none⟩ = some (.string (strB it.x)) ∧ W.cell? ⟨g, o + kk * 4 + 3, none⟩ = some (.int .i64 it.mode)) (by kernel_rfl) ⟨u0, u1, u2, u3, u4⟩ (fun hHeld => ?_)
      obtain ⟨wd, hwd⟩ : ∃ wd, wd = ((((w3.alloc (.cells #[.slice none 0 0, .slice b r e, .int .i64 p.within, .string (strB p.by_), .int .i64 p.pick] 26)).alloc (.cells #[.slice (some ⟨g, o, none⟩) q c, .slice b r e, .int .i64 (-1), .string (strB p.by_), .int .i64 p.pick] 26)).alloc (.cells #[.slice (some ⟨g, o, none⟩) q c, .slice b r e, .int .i64 p.within, .string (strB p.by_), .int .i64 4] 26)).alloc (.cells #[.slice (some ⟨g, o, none⟩) q c, .slice b r e, .int .i64 p.within, .string (strB p.by_), .int .i64 p.pick] 26)).drew := ⟨_, rfl⟩
      rw [← hwd] at hHeld HB4d ⊢
      clear hwd
      have HWD : Hid (Below w3.heap.size w3 wd) := HN4.out.trans (HB4d.out.mono HN4.out.size)
      have HSK : Hid (∀ W, Below wd.heap.size wd W → W.cell? ⟨w.heap.size, 0, none⟩ = some (.slice (some ⟨g, o, none⟩) q c) ∧ W.cell? ⟨g, o + kk * 4, none⟩ = some (.bool it.no) ∧ W.cell? ⟨g, o + kk * 4 + 1, none⟩ = some (.slice a2 m2 c2) ∧ W.cell? ⟨g, o + kk * 4 + 2, none⟩ = some (.string (strB it.x)) ∧ W.cell? ⟨g, o + kk * 4 + 3, none⟩ = some (.int .i64 it.mode)) := fun W hW => by
        obtain ⟨h0, h1, h2, h3, h4⟩ := hHeld
        exact ⟨tkeep hW h0, tkeep hW h1, tkeep hW h2, tkeep hW h3, tkeep hW h4⟩
      have hrow0 := HQ.out.1.low HB3.out
      obtain ⟨css, hc1, hc2, hc3, hc4⟩ := hrow0.flat
      have HB0 := Lib.hid (Below.refl wd.heap.size wd)
      have hPold : ∀ (W : World), Below wd.heap.size wd W → ∀ {cs : List Value} {x : PIt}, itemD.P (fun _ => False) w3 cs x → itemD.P (fun b => w3.heap.size ≤ b) W cs x := fun W hW cs x hx => itemD.keep ((TFr.of_below (K := fun b => w3.heap.size ≤ b) (HWD.out.trans (hW.mono HWD.out.size)))) (item_old hx)
      have HA3 : Hid (∀ W a n c', OwnQ W wd.heap.size w3.heap.size (.slice a n c') [] → Below wd.heap.size wd W → ∃ a3 l3 c3 w5, (Builtin.append_ #[23, 23] 23 #[.slice a n c', .slice (some ⟨g, o, none⟩) q c]).run Tryz.prog W = .ok (.slice a3 l3 c3) w5 ∧ Hid (OwnQ w5 wd.heap.size w3.heap.size (.slice a3 l3 c3) p.its) ∧ Hid (Below wd.heap.size wd w5) ∧ ∀ vb ob, some vb ≠ (Value.slice a n c').ownBlock → W.heap[vb]? = some ob → w5.heap[vb]? = some ob) := fun W a n c' hO hW => by
        obtain ⟨v', w', hr, ho, hg⟩ := hO.append (l2 := p.its) (A := ⟨g, o, none⟩) (c := c) (css2 := css) HWD.out.size hW.size (Nat.zero_le _) (by have := HS.out.n1; omega) hc1 hc2 (fun j x hj => by
          obtain ⟨cs, k1, k2⟩ := hc3 j x hj
          exact ⟨cs, k1, hPold W hW k2⟩) (fun i u hu => tkeep (HWD.out.trans (hW.mono HWD.out.size)) (hc4 i u hu))
        obtain ⟨a3, c3, rfl⟩ := ho.slice
        rw [← HQ.out.1.len] at hr
        exact ⟨a3, _, c3, w', hr, ho, hW.grown hg hW.size (fun k hk => (hO.own k hk).1), fun vb ob hne hob => (hg.block vb (Array.getElem?_eq_some_iff.1 hob).1 hne).trans hob⟩
      have hitP : itemD.P (fun b => w3.heap.size ≤ b) w3 #[.bool it.no, .slice a2 m2 c2, .string (strB it.x), .int .i64 it.mode].toList it := item_old ⟨a2, c2, by rw [HM2.out], by rw [HM2.out]; exact HIT.out.2⟩
      have HA15 : Hid (∀ W a n c' vb, OwnQ W wd.heap.size w3.heap.size (.slice a n c') p.its → W.heap[vb]? = some (.cells #[.bool it.no, .slice a2 m2 c2, .string (strB it.x), .int .i64 it.mode] 49 (0, 0)) → Below wd.heap.size wd W → ∃ a9 l9 c9 w8, (Builtin.append_ #[23, 23] 23 #[.slice a n c', .slice (some ⟨vb, 0, none⟩) 1 1]).run Tryz.prog W = .ok (.slice a9 l9 c9) w8 ∧ Hid (OwnQ w8 wd.heap.size w3.heap.size (.slice a9 l9 c9) (p.its ++ [it]) ∧ Below wd.heap.size wd w8 ∧ True)) := fun W a n c' vb hO hvb hW => by
        obtain ⟨v', w', hr, ho, hg⟩ := hO.append (l2 := [it]) (A := ⟨vb, 0, none⟩) (c := 1) (css2 := [#[.bool it.no, .slice a2 m2 c2, .string (strB it.x), .int .i64 it.mode].toList]) HWD.out.size hW.size (by have := HS.out.n1; omega) (by simp) rfl (fun c hc => by rw [List.mem_singleton.1 hc]; rfl) (fun j x hj => by
          cases j with
          | zero =>
            obtain rfl : it = x := by simpa using hj
            exact ⟨_, rfl, itemD.keep (TFr.of_below (K := fun b => w3.heap.size ≤ b) (HWD.out.trans (hW.mono HWD.out.size))) hitP⟩
          | succ j => simp at hj) (fun i u hu => by
          have e : (⟨vb, 0, none⟩ : Addr).add i = ⟨vb, i, none⟩ := by unfold Addr.add; split <;> simp_all
          rw [e, cell_of_row W vb i _ 49 (0, 0) hvb]
          simpa using hu)
        obtain ⟨a9, c9, rfl⟩ := ho.slice
        exact ⟨a9, _, c9, w', hr, ho, hW.grown hg hW.size (fun k hk => (hO.own k hk).1), trivial⟩
      have hD0 : Blk wd (w3.heap.size + 3) #[.slice (some ⟨g, o, none⟩) q c, .slice b r e, .int .i64 p.within, .string (strB p.by_), .int .i64 p.pick] 26 := HBL.out.2.2.2.low HB4d.out
      have HD0 : Hid (∀ W, Below wd.heap.size wd W → (W.cell? ⟨w3.heap.size + 3, 0, none⟩ = some (.slice (some ⟨g, o, none⟩) q c) ∧ W.cell? ⟨w3.heap.size + 3, 1, none⟩ = some (.slice b r e) ∧ W.cell? ⟨w3.heap.size + 3, 2, none⟩ = some (.int .i64 p.within) ∧ W.cell? ⟨w3.heap.size + 3, 3, none⟩ = some (.string (strB p.by_)) ∧ W.cell? ⟨w3.heap.size + 3, 4, none⟩ = some (.int .i64 p.pick)) ∧ (W.frozen? ⟨w3.heap.size + 3, 0, none⟩ = false ∧ W.frozen? ⟨w3.heap.size + 3, 1, none⟩ = false ∧ W.frozen? ⟨w3.heap.size + 3, 2, none⟩ = false ∧ W.frozen? ⟨w3.heap.size + 3, 3, none⟩ = false ∧ W.frozen? ⟨w3.heap.size + 3, 4, none⟩ = false)) := fun W hW =>
        ⟨⟨tcell_of_blk (hD0.low hW) rfl, tcell_of_blk (hD0.low hW) rfl, tcell_of_blk (hD0.low hW) rfl, tcell_of_blk (hD0.low hW) rfl, tcell_of_blk (hD0.low hW) rfl⟩, tfrozen_of_blk (hD0.low hW), tfrozen_of_blk (hD0.low hW), tfrozen_of_blk (hD0.low hW), tfrozen_of_blk (hD0.low hW), tfrozen_of_blk (hD0.low hW)⟩
      have HSS : Hid (∀ (W : World) (v : Value), (W.cell? ⟨w.heap.size, 0, none⟩ = some (.slice (some ⟨g, o, none⟩) q c) ∧ W.cell? ⟨g, o + kk * 4, none⟩ = some (.bool it.no) ∧ W.cell? ⟨g, o + kk * 4 + 1, none⟩ = some (.slice a2 m2 c2) ∧ W.cell? ⟨g, o + kk * 4 + 2, none⟩ = some (.string (strB it.x)) ∧ W.cell? ⟨g, o + kk * 4 + 3, none⟩ = some (.int .i64 it.mode)) → ((W.setCell ⟨w3.heap.size + 3, 0, none⟩ v).cell? ⟨w.heap.size, 0, none⟩ = some (.slice (some ⟨g, o, none⟩) q c) ∧ (W.setCell ⟨w3.heap.size + 3, 0, none⟩ v).cell? ⟨g, o + kk * 4, none⟩ = some (.bool it.no) ∧ (W.setCell ⟨w3.heap.size + 3, 0, none⟩ v).cell? ⟨g, o + kk * 4 + 1, none⟩ = some (.slice a2 m2 c2) ∧ (W.setCell ⟨w3.heap.size + 3, 0, none⟩ v).cell? ⟨g, o + kk * 4 + 2, none⟩ = some (.string (strB it.x)) ∧ (W.setCell ⟨w3.heap.size + 3, 0, none⟩ v).cell? ⟨g, o + kk * 4 + 3, none⟩ = some (.int .i64 it.mode))) := fun W v hW => by
        obtain ⟨h0, h1, h2, h3, h4⟩ := hW
        have l1 := HLT.out.1
        have l2 : g < w3.heap.size := HLT.out.2
        exact ⟨(TFr.at (w3.heap.size + 3) 0 v).cell h0 (by show ¬ w.heap.size = _; omega), (TFr.at (w3.heap.size + 3) 0 v).cell h1 (by show ¬ g = _; omega), (TFr.at (w3.heap.size + 3) 0 v).cell h2 (by show ¬ g = _; omega), (TFr.at (w3.heap.size + 3) 0 v).cell h3 (by show ¬ g = _; omega), (TFr.at (w3.heap.size + 3) 0 v).cell h4 (by show ¬ g = _; omega)⟩
      have HFIN : Hid (∀ (w8 : World) (a9 : Option Addr) (l9 c9 : Nat), (OwnQ w8 wd.heap.size w3.heap.size (.slice a9 l9 c9) (p.its ++ [it]) ∧ Below wd.heap.size wd w8 ∧ True) → ChW w3 (w8.setCell ⟨w3.heap.size + 3, 0, none⟩ (.slice a9 l9 c9)) p it (some ⟨g, o, none⟩) q c b r e a9 l9 c9) := fun w8 a9 l9 c9 ⟨hO, hW, _⟩ => by
        have hall := HWD.out.trans (hW.mono HWD.out.size)
        have hsz : w3.heap.size + 4 ≤ wd.heap.size := by
          have := HB4d.out.size
          simp at this
          omega
        have hst := TFr.at (w := w8) (w3.heap.size + 3) 0 (.slice a9 l9 c9)
        have h3 := hall.setCell (p := ⟨w3.heap.size + 3, 0, none⟩) (by show _ ≤ w3.heap.size + 3; omega) (.slice a9 l9 c9)
        refine ⟨h3, ((HBL.out.1.low HB4d.out).low hW).keep hst (by omega), ((HBL.out.2.1.low HB4d.out).low hW).keep hst (by omega), ((HBL.out.2.2.1.low HB4d.out).low hW).keep hst (by omega), ?_, ⟨(HQ.out.1.low HB3.out).low h3, (HQ.out.2.low HB3.out).low h3⟩, ?_, List.mem_of_getElem? HIT.out.1, HS.out.bd⟩
        · have := (hD0.low hW)
          unfold Blk at this ⊢
          rw [tsetCell_blk this]
          rfl
        · exact (hO.keep hst (fun b hb => by
            have hb : b = w3.heap.size + 3 := hb
            omega) (fun g' hg' hb => by
            have hb : g' = w3.heap.size + 3 := hb
            have := (hO.own g' hg').1
            omega)).row
      refine ttakeH 1 27 (v := ?va1) rfl (by kernel_rfl) (by kernel_rfl) (by kernel_rfl) rfl (fun _ _ _ h => h) (by rfl) ?ya1 (by assumption) ?ra1
      case ya1 => (intro W hSw; (try dsimp only at hSw); (try obtain ⟨hS0, hS1, hS2, hS3, hS4⟩ := hSw); go_simp; (try rw [if_neg (by omega)]); try with_reducible rfl)
      try simp only [Act.put, List.setIfInBounds_toArray, List.set_cons_zero, List.set_cons_succ]
      refine ttakeH 2 28 (v := ?va2) rfl (by kernel_rfl) (by kernel_rfl) (by kernel_rfl) rfl (fun _ _ _ h => h) (by rfl) ?ya2 (by assumption) ?ra2
      case ya2 => (intro W hSw; (try dsimp only at hSw); (try obtain ⟨hS0, hS1, hS2, hS3, hS4⟩ := hSw); go_simp; (try rw [if_neg (by omega)]); try with_reducible rfl)
      try simp only [Act.put, List.setIfInBounds_toArray, List.set_cons_zero, List.set_cons_succ]
      refine ttakeH 4 30 (v := ?va4) rfl (by kernel_rfl) (by kernel_rfl) (by kernel_rfl) rfl (fun _ _ _ h => h) (by rfl) ?ya4 (by assumption) ?ra4
      case ya4 => (intro W hSw; (try dsimp only at hSw); (try obtain ⟨hS0, hS1, hS2, hS3, hS4⟩ := hSw); go_simp; (try rw [if_neg (by omega)]); try with_reducible rfl)
      try simp only [Act.put, List.setIfInBounds_toArray, List.set_cons_zero, List.set_cons_succ]
      refine ttakeH 5 31 (v := ?va5) rfl (by kernel_rfl) (by kernel_rfl) (by kernel_rfl) rfl (fun _ _ _ h => h) (by rfl) ?ya5 (by assumption) ?ra5
      case ya5 => (intro W hSw; (try dsimp only at hSw); (try obtain ⟨hS0, hS1, hS2, hS3, hS4⟩ := hSw); go_simp; (try rw [if_neg (by omega)]); try with_reducible rfl)
      try simp only [Act.put, List.setIfInBounds_toArray, List.set_cons_zero, List.set_cons_succ]
      refine ttakeH 6 32 (v := ?va6) rfl (by kernel_rfl) (by kernel_rfl) (by kernel_rfl) rfl (fun _ _ _ h => h) (by rfl) ?ya6 (by assumption) ?ra6
      case ya6 => (intro W hSw; (try dsimp only at hSw); (try obtain ⟨hS0, hS1, hS2, hS3, hS4⟩ := hSw); go_simp; (try rw [if_neg (by omega)]); try with_reducible rfl)
      try simp only [Act.put, List.setIfInBounds_toArray, List.set_cons_zero, List.set_cons_succ]
      refine ttakeH 7 33 (v := ?va7) rfl (by kernel_rfl) (by kernel_rfl) (by kernel_rfl) rfl (fun _ _ _ h => h) (by rfl) ?ya7 (by assumption) ?ra7
      case ya7 => (intro W hSw; (try dsimp only at hSw); (try obtain ⟨hS0, hS1, hS2, hS3, hS4⟩ := hSw); go_simp; (try rw [if_neg (by omega)]); try with_reducible rfl)
      try simp only [Act.put, List.setIfInBounds_toArray, List.set_cons_zero, List.set_cons_succ]
      refine ttakeH 8 34 (v := ?va8) rfl (by kernel_rfl) (by kernel_rfl) (by kernel_rfl) rfl (fun _ _ _ h => h) (by rfl) ?ya8 (by assumption) ?ra8
      case ya8 => (intro W hSw; (try dsimp only at hSw); (try obtain ⟨hS0, hS1, hS2, hS3, hS4⟩ := hSw); go_simp; (try rw [if_neg (by omega)]); try with_reducible rfl)
      try simp only [Act.put, List.setIfInBounds_toArray, List.set_cons_zero, List.set_cons_succ]
      refine ttakeH 9 35 (v := ?va9) rfl (by kernel_rfl) (by kernel_rfl) (by kernel_rfl) rfl (fun _ _ _ h => h) (by rfl) ?ya9 (by assumption) ?ra9
      case ya9 => (intro W hSw; (try dsimp only at hSw); (try obtain ⟨hS0, hS1, hS2, hS3, hS4⟩ := hSw); go_simp; (try rw [if_neg (by omega)]); try with_reducible rfl)
      try simp only [Act.put, List.setIfInBounds_toArray, List.set_cons_zero, List.set_cons_succ]
      refine ttakeH 10 36 (v := ?va10) rfl (by kernel_rfl) (by kernel_rfl) (by kernel_rfl) rfl (fun _ _ _ h => h) (by rfl) ?ya10 (by assumption) ?ra10
      case ya10 => (intro W hSw; (try dsimp only at hSw); (try obtain ⟨hS0, hS1, hS2, hS3, hS4⟩ := hSw); go_simp; (try rw [if_neg (by omega)]); try with_reducible rfl)
      try simp only [Act.put, List.setIfInBounds_toArray, List.set_cons_zero, List.set_cons_succ]
      refine ttakeH 11 37 (v := ?va11) rfl (by kernel_rfl) (by kernel_rfl) (by kernel_rfl) rfl (fun _ _ _ h => h) (by rfl) ?ya11 (by assumption) ?ra11
      case ya11 => (intro W hSw; (try dsimp only at hSw); (try obtain ⟨hS0, hS1, hS2, hS3, hS4⟩ := hSw); go_simp; (try rw [if_neg (by omega)]); try with_reducible rfl)
      try simp only [Act.put, List.setIfInBounds_toArray, List.set_cons_zero, List.set_cons_succ]
      refine ttakeH 12 38 (v := ?va12) rfl (by kernel_rfl) (by kernel_rfl) (by kernel_rfl) rfl (fun _ _ _ h => h) (by rfl) ?ya12 (by assumption) ?ra12
      case ya12 => (intro W hSw; (try dsimp only at hSw); (try obtain ⟨hS0, hS1, hS2, hS3, hS4⟩ := hSw); go_simp; (try rw [if_neg (by omega)]); try with_reducible rfl)
      try simp only [Act.put, List.setIfInBounds_toArray, List.set_cons_zero, List.set_cons_succ]
      refine ttakeH 13 39 (v := ?va13) rfl (by kernel_rfl) (by kernel_rfl) (by kernel_rfl) rfl (fun _ _ _ h => h) (by rfl) ?ya13 (by assumption) ?ra13
      case ya13 => (intro W hSw; (try dsimp only at hSw); (try obtain ⟨hS0, hS1, hS2, hS3, hS4⟩ := hSw); go_simp; (try rw [if_neg (by omega)]); try with_reducible rfl)
      try simp only [Act.put, List.setIfInBounds_toArray, List.set_cons_zero, List.set_cons_succ]
      refine wpAnyH_ready (rs := [0, 14]) (by kernel_rfl) (by simp) ?_
      refine AllReadyH.cons (o := _) rfl (fun K hK => ?_) (AllReadyH.cons (o := _) rfl (fun K hK => ?_) AllReadyH.nil)
      · dsimp only [List.getElem_toArray, List.getElem_cons_succ, List.getElem_cons_zero]
        go_simp
        have HB1 := Lib.hid (HB0.out.alloc HB0.out.size (.cells #[] 49))
        have HE := Lib.hid (OwnQ.empty (W := (wd.alloc (.cells #[] 49))) (B := wd.heap.size) (N := w3.heap.size) (g := wd.heap.size) HB0.out.size (heap_alloc_new wd _))
        refine hK.out _ _ (HSK.out _ HB1.out) (fun hHeld0 => ?_)
        clear hK K
        try simp only [Act.put, List.setIfInBounds_toArray, List.set_cons_zero, List.set_cons_succ]
        refine wpAnyH_ready (rs := [3, 14]) (by kernel_rfl) (by simp) ?_
        refine AllReadyH.cons (o := _) rfl (fun K hK => ?_) (AllReadyH.cons (o := _) rfl (fun K hK => ?_) AllReadyH.nil)
        · dsimp only [List.getElem_toArray, List.getElem_cons_succ, List.getElem_cons_zero]
          obtain ⟨a3, l3, c3, w5, hr3, HO3, HB3', HG3⟩ := HA3.out (wd.alloc (.cells #[] 49)) _ _ _ HE.out HB1.out
          refine step_append_runI (by rfl) (.tmp 26) (.tmp 28) 23 23 rfl _ _ (by simp [Act.eval]) (by simp [Act.eval]) hr3 ?_
          refine hK.out _ _ (HSK.out _ HB3'.out) (fun hHeld3 => ?_)
          clear hK K hr3
          try simp only [Act.put, List.setIfInBounds_toArray, List.set_cons_zero, List.set_cons_succ]
          refine wpAnyH_ready (rs := [14]) (by kernel_rfl) (by simp) ?_
          refine AllReadyH.cons (o := _) rfl (fun K hK => ?_) AllReadyH.nil
          dsimp only [List.getElem_toArray, List.getElem_cons_succ, List.getElem_cons_zero]
          go_simp
          have HB4 := Lib.hid (HB3'.out.alloc HB3'.out.size (.cells #[.bool it.no, .slice a2 m2 c2, .string (strB it.x), .int .i64 it.mode] 49))
          have HI14 := Lib.hid (heap_alloc_new w5 (.cells #[.bool it.no, .slice a2 m2 c2, .string (strB it.x), .int .i64 it.mode] 49))
          have HO14 := Lib.hid (HO3.out.low ((Below.refl w5.heap.size w5).alloc (Nat.le_refl _) (.cells #[.bool it.no, .slice a2 m2 c2, .string (strB it.x), .int .i64 it.mode] 49)))
          refine hK.out _ _ (HSK.out _ HB4.out) (fun hHeld14 => ?_)
          clear hK K
          try simp only [Act.put, List.setIfInBounds_toArray, List.set_cons_zero, List.set_cons_succ]
          refine wpAnyH_ready (rs := [15]) (by kernel_rfl) (by simp) ?_
          refine AllReadyH.cons (o := _) rfl (fun K hK => ?_) AllReadyH.nil
          dsimp only [List.getElem_toArray, List.getElem_cons_succ, List.getElem_cons_zero]
          obtain ⟨a9, l9, c9, w8, hr15, HF15⟩ := HA15.out (w5.alloc (.cells #[.bool it.no, .slice a2 m2 c2, .string (strB it.x), .int .i64 it.mode] 49)) _ _ _ w5.heap.size HO14.out HI14.out HB4.out
          refine step_append_runI (by rfl) (.tmp 29) (.tmp 40) 23 23 rfl _ _ (by simp [Act.eval]) (by simp [Act.eval]) hr15 ?_
          refine hK.out _ _ (HSK.out _ HF15.out.2.1) (fun hHeld15 => ?_)
          clear hK K hr15
          try simp only [Act.put, List.setIfInBounds_toArray, List.set_cons_zero, List.set_cons_succ]
          refine ttakeH 16 42 (v := ?va16) rfl (by kernel_rfl) (by kernel_rfl) (by kernel_rfl) rfl (fun _ _ _ h => h) (by rfl) ?ya16 (by assumption) ?ra16
          case ya16 => (intro W hSw; (try dsimp only at hSw); (try obtain ⟨hS0, hS1, hS2, hS3, hS4⟩ := hSw); go_simp; (try rw [if_neg (by omega)]); try with_reducible rfl)
          try simp only [Act.put, List.setIfInBounds_toArray, List.set_cons_zero, List.set_cons_succ]
          refine wpAnyH_ready (rs := [17]) (by kernel_rfl) (by simp) ?_
          refine AllReadyH.cons (o := _) rfl (fun K hK => ?_) AllReadyH.nil
          dsimp only [List.getElem_toArray, List.getElem_cons_succ, List.getElem_cons_zero]
          obtain ⟨s0, s1, s2, s3, s4⟩ := (HD0.out w8 HF15.out.2.1).1
          obtain ⟨z0, z1, z2, z3, z4⟩ := (HD0.out w8 HF15.out.2.1).2
          go_simp
          refine hK.out _ _ (HSS.out w8 _ (HSK.out _ HF15.out.2.1)) (fun hHeld17 => ?_)
          clear hK K
          try simp only [Act.put, List.setIfInBounds_toArray, List.set_cons_zero, List.set_cons_succ]
          refine wpAnyH_done (by kernel_rfl) ?_ _
          obtain ⟨w9, hw9⟩ : ∃ w9, w9 = w8.setCell ⟨w3.heap.size + 3, 0, none⟩ (.slice a9 l9 c9) := ⟨_, rfl⟩
          rw [← hw9]
          have HW9 : Hid (ChW w3 w9 p it (some ⟨g, o, none⟩) q c b r e a9 l9 c9) := by
            rw [hw9]
            exact HFIN.out w8 a9 l9 c9 HF15.out
          clear hw9 HF15
          obtain ⟨x0, x1, x2, x3, x4⟩ := (HW9.out.cellsA (Below.refl w9.heap.size w9))
          go_wp2_with fail
          with_reducible refine (HW9.out.rightA (Below.refl w9.heap.size w9)).mono ?_
          rintro e9 v0 ⟨rfl, hb9⟩
          have HV0 := Lib.hid ((Below.refl w9.heap.size w9).trans (hb9.mono (Below.refl w9.heap.size w9).size))
          clear hb9 x0 x1 x2 x3 x4
          obtain ⟨x0, x1, x2, x3, x4⟩ := (HW9.out.cellsB HV0.out)
          go_wp2_with fail
          with_reducible refine (HW9.out.rightB HV0.out).mono ?_
          rintro e9 v1 ⟨rfl, hb9⟩
          have HV1 := Lib.hid (HV0.out.trans (hb9.mono HV0.out.size))
          clear hb9 x0 x1 x2 x3 x4
          obtain ⟨x0, x1, x2, x3, x4⟩ := (HW9.out.cellsC HV1.out)
          go_wp2_with fail
          with_reducible refine (HW9.out.rightC HV1.out).mono ?_
          rintro e9 v2 ⟨rfl, hb9⟩
          have HV2 := Lib.hid (HV1.out.trans (hb9.mono HV1.out.size))
          clear hb9 x0 x1 x2 x3 x4
          obtain ⟨x0, x1, x2, x3, x4⟩ := (HW9.out.cellsD HV2.out)
          go_wp2_with fail
          with_reducible refine (HW9.out.rightD HV2.out).mono ?_
          rintro e9 v3 ⟨rfl, hb9⟩
          have HV3 := Lib.hid (HV2.out.trans (hb9.mono HV2.out.size))
          clear hb9 x0 x1 x2 x3 x4
          obtain ⟨x0, x1, x2, x3, x4⟩ := (HW9.out.cellsA HV3.out)
          go_wp2_with fail
          with_reducible refine (HW9.out.printA HPV.out HV3.out).mono ?_
          rintro e9 v4 ⟨rfl, hb9⟩
          have HV4 := Lib.hid (HV3.out.trans (hb9.mono HV3.out.size))
          clear hb9 x0 x1 x2 x3 x4
          obtain ⟨x0, x1, x2, x3, x4⟩ := (HW9.out.cellsB HV4.out)
          go_wp2_with fail
          with_reducible refine (HW9.out.printB HPV.out HV4.out).mono ?_
          rintro e9 v5 ⟨rfl, hb9⟩
          have HV5 := Lib.hid (HV4.out.trans (hb9.mono HV4.out.size))
          clear hb9 x0 x1 x2 x3 x4
          obtain ⟨x0, x1, x2, x3, x4⟩ := (HW9.out.cellsC HV5.out)
          go_wp2_with fail
          with_reducible refine (HW9.out.printC HPV.out HV5.out).mono ?_
          rintro e9 v6 ⟨rfl, hb9⟩
          have HV6 := Lib.hid (HV5.out.trans (hb9.mono HV5.out.size))
          clear hb9 x0 x1 x2 x3 x4
          obtain ⟨x0, x1, x2, x3, x4⟩ := (HW9.out.cellsD HV6.out)
          go_wp2_with fail
          with_reducible refine (HW9.out.printD HPV.out HV6.out).mono ?_
          rintro e9 v7 ⟨rfl, hb9⟩
          have HV7 := Lib.hid (HV6.out.trans (hb9.mono HV6.out.size))
          clear hb9 x0 x1 x2 x3 x4
          go_wp2
          go_ret
          exact ⟨rfl, HB3.out.trans ((HW9.out.low.trans (HV7.out.mono HW9.out.low.size)).mono HB3.out.size)⟩
        · dsimp only [List.getElem_toArray, List.getElem_cons_succ, List.getElem_cons_zero]
          go_simp
          have HB4 := Lib.hid (HB1.out.alloc HB1.out.size (.cells #[.bool it.no, .slice a2 m2 c2, .string (strB it.x), .int .i64 it.mode] 49))
          have HI14 := Lib.hid (heap_alloc_new (wd.alloc (.cells #[] 49)) (.cells #[.bool it.no, .slice a2 m2 c2, .string (strB it.x), .int .i64 it.mode] 49))
          have HO14 := Lib.hid (HE.out.low ((Below.refl (wd.alloc (.cells #[] 49)).heap.size (wd.alloc (.cells #[] 49))).alloc (Nat.le_refl _) (.cells #[.bool it.no, .slice a2 m2 c2, .string (strB it.x), .int .i64 it.mode] 49)))
          refine hK.out _ _ (HSK.out _ HB4.out) (fun hHeld14 => ?_)
          clear hK K
          try simp only [Act.put, List.setIfInBounds_toArray, List.set_cons_zero, List.set_cons_succ]
          refine wpAnyH_ready (rs := [3]) (by kernel_rfl) (by simp) ?_
          refine AllReadyH.cons (o := _) rfl (fun K hK => ?_) AllReadyH.nil
          dsimp only [List.getElem_toArray, List.getElem_cons_succ, List.getElem_cons_zero]
          obtain ⟨a3, l3, c3, w5, hr3, HO3, HB3', HG3⟩ := HA3.out ((wd.alloc (.cells #[] 49)).alloc (.cells #[.bool it.no, .slice a2 m2 c2, .string (strB it.x), .int .i64 it.mode] 49)) _ _ _ HO14.out HB4.out
          refine step_append_runI (by rfl) (.tmp 26) (.tmp 28) 23 23 rfl _ _ (by simp [Act.eval]) (by simp [Act.eval]) hr3 ?_
          have HI3 := Lib.hid (HG3 _ _ (by simp [Value.ownBlock]) HI14.out)
          refine hK.out _ _ (HSK.out _ HB3'.out) (fun hHeld3 => ?_)
          clear hK K hr3
          try simp only [Act.put, List.setIfInBounds_toArray, List.set_cons_zero, List.set_cons_succ]
          refine wpAnyH_ready (rs := [15]) (by kernel_rfl) (by simp) ?_
          refine AllReadyH.cons (o := _) rfl (fun K hK => ?_) AllReadyH.nil
          dsimp only [List.getElem_toArray, List.getElem_cons_succ, List.getElem_cons_zero]
          obtain ⟨a9, l9, c9, w8, hr15, HF15⟩ := HA15.out w5 _ _ _ (wd.alloc (.cells #[] 49)).heap.size HO3.out HI3.out HB3'.out
          refine step_append_runI (by rfl) (.tmp 29) (.tmp 40) 23 23 rfl _ _ (by simp [Act.eval]) (by simp [Act.eval]) hr15 ?_
          refine hK.out _ _ (HSK.out _ HF15.out.2.1) (fun hHeld15 => ?_)
          clear hK K hr15
          try simp only [Act.put, List.setIfInBounds_toArray, List.set_cons_zero, List.set_cons_succ]
          refine ttakeH 16 42 (v := ?vb16) rfl (by kernel_rfl) (by kernel_rfl) (by kernel_rfl) rfl (fun _ _ _ h => h) (by rfl) ?yb16 (by assumption) ?rb16
          case yb16 => (intro W hSw; (try dsimp only at hSw); (try obtain ⟨hS0, hS1, hS2, hS3, hS4⟩ := hSw); go_simp; (try rw [if_neg (by omega)]); try with_reducible rfl)
          try simp only [Act.put, List.setIfInBounds_toArray, List.set_cons_zero, List.set_cons_succ]
          refine wpAnyH_ready (rs := [17]) (by kernel_rfl) (by simp) ?_
          refine AllReadyH.cons (o := _) rfl (fun K hK => ?_) AllReadyH.nil
          dsimp only [List.getElem_toArray, List.getElem_cons_succ, List.getElem_cons_zero]
          obtain ⟨s0, s1, s2, s3, s4⟩ := (HD0.out w8 HF15.out.2.1).1
          obtain ⟨z0, z1, z2, z3, z4⟩ := (HD0.out w8 HF15.out.2.1).2
          go_simp
          refine hK.out _ _ (HSS.out w8 _ (HSK.out _ HF15.out.2.1)) (fun hHeld17 => ?_)
          clear hK K
          try simp only [Act.put, List.setIfInBounds_toArray, List.set_cons_zero, List.set_cons_succ]
          refine wpAnyH_done (by kernel_rfl) ?_ _
          obtain ⟨w9, hw9⟩ : ∃ w9, w9 = w8.setCell ⟨w3.heap.size + 3, 0, none⟩ (.slice a9 l9 c9) := ⟨_, rfl⟩
          rw [← hw9]
          have HW9 : Hid (ChW w3 w9 p it (some ⟨g, o, none⟩) q c b r e a9 l9 c9) := by
            rw [hw9]
            exact HFIN.out w8 a9 l9 c9 HF15.out
          clear hw9 HF15
          obtain ⟨x0, x1, x2, x3, x4⟩ := (HW9.out.cellsA (Below.refl w9.heap.size w9))
          go_wp2_with fail
          with_reducible refine (HW9.out.rightA (Below.refl w9.heap.size w9)).mono ?_
          rintro e9 v0 ⟨rfl, hb9⟩
          have HV0 := Lib.hid ((Below.refl w9.heap.size w9).trans (hb9.mono (Below.refl w9.heap.size w9).size))
          clear hb9 x0 x1 x2 x3 x4
          obtain ⟨x0, x1, x2, x3, x4⟩ := (HW9.out.cellsB HV0.out)
          go_wp2_with fail
          with_reducible refine (HW9.out.rightB HV0.out).mono ?_
          rintro e9 v1 ⟨rfl, hb9⟩
          have HV1 := Lib.hid (HV0.out.trans (hb9.mono HV0.out.size))
          clear hb9 x0 x1 x2 x3 x4
          obtain ⟨x0, x1, x2, x3, x4⟩ := (HW9.out.cellsC HV1.out)
          go_wp2_with fail
          with_reducible refine (HW9.out.rightC HV1.out).mono ?_
          rintro e9 v2 ⟨rfl, hb9⟩
          have HV2 := Lib.hid (HV1.out.trans (hb9.mono HV1.out.size))
          clear hb9 x0 x1 x2 x3 x4
          obtain ⟨x0, x1, x2, x3, x4⟩ := (HW9.out.cellsD HV2.out)
          go_wp2_with fail
          with_reducible refine (HW9.out.rightD HV2.out).mono ?_
          rintro e9 v3 ⟨rfl, hb9⟩
          have HV3 := Lib.hid (HV2.out.trans (hb9.mono HV2.out.size))
          clear hb9 x0 x1 x2 x3 x4
          obtain ⟨x0, x1, x2, x3, x4⟩ := (HW9.out.cellsA HV3.out)
          go_wp2_with fail
          with_reducible refine (HW9.out.printA HPV.out HV3.out).mono ?_
          rintro e9 v4 ⟨rfl, hb9⟩
          have HV4 := Lib.hid (HV3.out.trans (hb9.mono HV3.out.size))
          clear hb9 x0 x1 x2 x3 x4
          obtain ⟨x0, x1, x2, x3, x4⟩ := (HW9.out.cellsB HV4.out)
          go_wp2_with fail
          with_reducible refine (HW9.out.printB HPV.out HV4.out).mono ?_
          rintro e9 v5 ⟨rfl, hb9⟩
          have HV5 := Lib.hid (HV4.out.trans (hb9.mono HV4.out.size))
          clear hb9 x0 x1 x2 x3 x4
          obtain ⟨x0, x1, x2, x3, x4⟩ := (HW9.out.cellsC HV5.out)
          go_wp2_with fail
          with_reducible refine (HW9.out.printC HPV.out HV5.out).mono ?_
          rintro e9 v6 ⟨rfl, hb9⟩
          have HV6 := Lib.hid (HV5.out.trans (hb9.mono HV5.out.size))
          clear hb9 x0 x1 x2 x3 x4
          obtain ⟨x0, x1, x2, x3, x4⟩ := (HW9.out.cellsD HV6.out)
          go_wp2_with fail
          with_reducible refine (HW9.out.printD HPV.out HV6.out).mono ?_
          rintro e9 v7 ⟨rfl, hb9⟩
          have HV7 := Lib.hid (HV6.out.trans (hb9.mono HV6.out.size))
          clear hb9 x0 x1 x2 x3 x4
          go_wp2
          go_ret
          exact ⟨rfl, HB3.out.trans ((HW9.out.low.trans (HV7.out.mono HW9.out.low.size)).mono HB3.out.size)⟩
      · dsimp only [List.getElem_toArray, List.getElem_cons_succ, List.getElem_cons_zero]
        go_simp
        have HB4 := Lib.hid (HB0.out.alloc HB0.out.size (.cells #[.bool it.no, .slice a2 m2 c2, .string (strB it.x), .int .i64 it.mode] 49))
        have HI14 := Lib.hid (heap_alloc_new wd (.cells #[.bool it.no, .slice a2 m2 c2, .string (strB it.x), .int .i64 it.mode] 49))
        refine hK.out _ _ (HSK.out _ HB4.out) (fun hHeld14 => ?_)
        clear hK K
        try simp only [Act.put, List.setIfInBounds_toArray, List.set_cons_zero, List.set_cons_succ]
        refine wpAnyH_ready (rs := [0]) (by kernel_rfl) (by simp) ?_
        refine AllReadyH.cons (o := _) rfl (fun K hK => ?_) AllReadyH.nil
        dsimp only [List.getElem_toArray, List.getElem_cons_succ, List.getElem_cons_zero]
        go_simp
        have HB5 := Lib.hid (HB4.out.alloc HB4.out.size (.cells #[] 49))
        have HE := Lib.hid (OwnQ.empty (W := ((wd.alloc (.cells #[.bool it.no, .slice a2 m2 c2, .string (strB it.x), .int .i64 it.mode] 49)).alloc (.cells #[] 49))) (B := wd.heap.size) (N := w3.heap.size) (g := (wd.alloc (.cells #[.bool it.no, .slice a2 m2 c2, .string (strB it.x), .int .i64 it.mode] 49)).heap.size) HB4.out.size (heap_alloc_new (wd.alloc (.cells #[.bool it.no, .slice a2 m2 c2, .string (strB it.x), .int .i64 it.mode] 49)) _))
        refine hK.out _ _ (HSK.out _ HB5.out) (fun hHeld0 => ?_)
        clear hK K
        try simp only [Act.put, List.setIfInBounds_toArray, List.set_cons_zero, List.set_cons_succ]
        have HI0 := Lib.hid ((((Below.refl _ _).alloc (Nat.le_refl _) (.cells #[] 49) : Below (wd.alloc (.cells #[.bool it.no, .slice a2 m2 c2, .string (strB it.x), .int .i64 it.mode] 49)).heap.size (wd.alloc (.cells #[.bool it.no, .slice a2 m2 c2, .string (strB it.x), .int .i64 it.mode] 49)) _).block wd.heap.size (by simp)).trans HI14.out)
        refine wpAnyH_ready (rs := [3]) (by kernel_rfl) (by simp) ?_
        refine AllReadyH.cons (o := _) rfl (fun K hK => ?_) AllReadyH.nil
        dsimp only [List.getElem_toArray, List.getElem_cons_succ, List.getElem_cons_zero]
        obtain ⟨a3, l3, c3, w5, hr3, HO3, HB3', HG3⟩ := HA3.out ((wd.alloc (.cells #[.bool it.no, .slice a2 m2 c2, .string (strB it.x), .int .i64 it.mode] 49)).alloc (.cells #[] 49)) _ _ _ HE.out HB5.out
        refine step_append_runI (by rfl) (.tmp 26) (.tmp 28) 23 23 rfl _ _ (by simp [Act.eval]) (by simp [Act.eval]) hr3 ?_
        have HI3 := Lib.hid (HG3 _ _ (by simp [Value.ownBlock]) HI0.out)
        refine hK.out _ _ (HSK.out _ HB3'.out) (fun hHeld3 => ?_)
        clear hK K hr3
        try simp only [Act.put, List.setIfInBounds_toArray, List.set_cons_zero, List.set_cons_succ]
        refine wpAnyH_ready (rs := [15]) (by kernel_rfl) (by simp) ?_
        refine AllReadyH.cons (o := _) rfl (fun K hK => ?_) AllReadyH.nil
        dsimp only [List.getElem_toArray, List.getElem_cons_succ, List.getElem_cons_zero]
        obtain ⟨a9, l9, c9, w8, hr15, HF15⟩ := HA15.out w5 _ _ _ wd.heap.size HO3.out HI3.out HB3'.out
        refine step_append_runI (by rfl) (.tmp 29) (.tmp 40) 23 23 rfl _ _ (by simp [Act.eval]) (by simp [Act.eval]) hr15 ?_
        refine hK.out _ _ (HSK.out _ HF15.out.2.1) (fun hHeld15 => ?_)
        clear hK K hr15
        try simp only [Act.put, List.setIfInBounds_toArray, List.set_cons_zero, List.set_cons_succ]
        refine ttakeH 16 42 (v := ?vc16) rfl (by kernel_rfl) (by kernel_rfl) (by kernel_rfl) rfl (fun _ _ _ h => h) (by rfl) ?yc16 (by assumption) ?rc16
        case yc16 => (intro W hSw; (try dsimp only at hSw); (try obtain ⟨hS0, hS1, hS2, hS3, hS4⟩ := hSw); go_simp; (try rw [if_neg (by omega)]); try with_reducible rfl)
        try simp only [Act.put, List.setIfInBounds_toArray, List.set_cons_zero, List.set_cons_succ]
        refine wpAnyH_ready (rs := [17]) (by kernel_rfl) (by simp) ?_
        refine AllReadyH.cons (o := _) rfl (fun K hK => ?_) AllReadyH.nil
        dsimp only [List.getElem_toArray, List.getElem_cons_succ, List.getElem_cons_zero]
        obtain ⟨s0, s1, s2, s3, s4⟩ := (HD0.out w8 HF15.out.2.1).1
        obtain ⟨z0, z1, z2, z3, z4⟩ := (HD0.out w8 HF15.out.2.1).2
        go_simp
        refine hK.out _ _ (HSS.out w8 _ (HSK.out _ HF15.out.2.1)) (fun hHeld17 => ?_)
        clear hK K
        try simp only [Act.put, List.setIfInBounds_toArray, List.set_cons_zero, List.set_cons_succ]
        refine wpAnyH_done (by kernel_rfl) ?_ _
        obtain ⟨w9, hw9⟩ : ∃ w9, w9 = w8.setCell ⟨w3.heap.size + 3, 0, none⟩ (.slice a9 l9 c9) := ⟨_, rfl⟩
        rw [← hw9]
        have HW9 : Hid (ChW w3 w9 p it (some ⟨g, o, none⟩) q c b r e a9 l9 c9) := by
          rw [hw9]
          exact HFIN.out w8 a9 l9 c9 HF15.out
        clear hw9 HF15
        obtain ⟨x0, x1, x2, x3, x4⟩ := (HW9.out.cellsA (Below.refl w9.heap.size w9))
        go_wp2_with fail
        with_reducible refine (HW9.out.rightA (Below.refl w9.heap.size w9)).mono ?_
        rintro e9 v0 ⟨rfl, hb9⟩
        have HV0 := Lib.hid ((Below.refl w9.heap.size w9).trans (hb9.mono (Below.refl w9.heap.size w9).size))
        clear hb9 x0 x1 x2 x3 x4
        obtain ⟨x0, x1, x2, x3, x4⟩ := (HW9.out.cellsB HV0.out)
        go_wp2_with fail
        with_reducible refine (HW9.out.rightB HV0.out).mono ?_
        rintro e9 v1 ⟨rfl, hb9⟩
        have HV1 := Lib.hid (HV0.out.trans (hb9.mono HV0.out.size))
        clear hb9 x0 x1 x2 x3 x4
        obtain ⟨x0, x1, x2, x3, x4⟩ := (HW9.out.cellsC HV1.out)
        go_wp2_with fail
        with_reducible refine (HW9.out.rightC HV1.out).mono ?_
        rintro e9 v2 ⟨rfl, hb9⟩
        have HV2 := Lib.hid (HV1.out.trans (hb9.mono HV1.out.size))
        clear hb9 x0 x1 x2 x3 x4
        obtain ⟨x0, x1, x2, x3, x4⟩ := (HW9.out.cellsD HV2.out)
        go_wp2_with fail
        with_reducible refine (HW9.out.rightD HV2.out).mono ?_
        rintro e9 v3 ⟨rfl, hb9⟩
        have HV3 := Lib.hid (HV2.out.trans (hb9.mono HV2.out.size))
        clear hb9 x0 x1 x2 x3 x4
        obtain ⟨x0, x1, x2, x3, x4⟩ := (HW9.out.cellsA HV3.out)
        go_wp2_with fail
        with_reducible refine (HW9.out.printA HPV.out HV3.out).mono ?_
        rintro e9 v4 ⟨rfl, hb9⟩
        have HV4 := Lib.hid (HV3.out.trans (hb9.mono HV3.out.size))
        clear hb9 x0 x1 x2 x3 x4
        obtain ⟨x0, x1, x2, x3, x4⟩ := (HW9.out.cellsB HV4.out)
        go_wp2_with fail
        with_reducible refine (HW9.out.printB HPV.out HV4.out).mono ?_
        rintro e9 v5 ⟨rfl, hb9⟩
        have HV5 := Lib.hid (HV4.out.trans (hb9.mono HV4.out.size))
        clear hb9 x0 x1 x2 x3 x4
        obtain ⟨x0, x1, x2, x3, x4⟩ := (HW9.out.cellsC HV5.out)
        go_wp2_with fail
        with_reducible refine (HW9.out.printC HPV.out HV5.out).mono ?_
        rintro e9 v6 ⟨rfl, hb9⟩
        have HV6 := Lib.hid (HV5.out.trans (hb9.mono HV5.out.size))
        clear hb9 x0 x1 x2 x3 x4
        obtain ⟨x0, x1, x2, x3, x4⟩ := (HW9.out.cellsD HV6.out)
        go_wp2_with fail
        with_reducible refine (HW9.out.printD HPV.out HV6.out).mono ?_
        rintro e9 v7 ⟨rfl, hb9⟩
        have HV7 := Lib.hid (HV6.out.trans (hb9.mono HV6.out.size))
        clear hb9 x0 x1 x2 x3 x4
        go_wp2
        go_ret
        exact ⟨rfl, HB3.out.trans ((HW9.out.low.trans (HV7.out.mono HW9.out.low.size)).mono HB3.out.size)⟩

end Go.Proofs.YtndmbljpfpnehaaGreatDoor
namespace Go.Proofs.YtndmbljpfpnehaaGreatDoor
open Go.ChangeShapes Go.WideShapes Go.ChangeAt Go.RowKit Go.Lib Go.Deep Go.Joins
open Go.ChangeMaps (open_string shut_string)

namespace treeChanged
set_option maxRecDepth 100000 in
theorem lifted (os : Os) (started : os.Started) (H : Type) (enc : TypeId × Value → H) :
    ReturnsInHanded {} Tryz.checked os 8 .any (fun w args => (Rows.treeChangedSpec.pre enc Tryz.prog Tryz.f8 [] false w args ∧ laidMetH Tryz.prog laidX w) ∧ sizedMet enc Tryz.prog Tryz.f8 (OpenSpec.ofChange Rows.treeChangedSpec) false w args)
      (Rows.treeChangedSpec.post enc Tryz.prog Tryz.f8 false true false false) := by
  refine returnsInHanded_of_change_and (C := Tryz.checked) (X := fun w _ => laidMetH Tryz.prog laidX w) (fun _ _ _ hh h => h.of_heap hh) xown_ started (by kernel_rfl) Tryz.func8
    (ChangeSpec.witness_shaped (enc := enc) (C := Tryz.checked) (os := os) (X := fun w _ => laidMetH Tryz.prog laidX w) false (World.doorLaid Tryz.prog 74 os) #[.agg #[.slice none 0 0, .slice none 0 0, .int .i64 0, .string .empty, .int .i64 0], .int .u8 0] 8 rfl (World.shaped_of_RefB (by kernel_rfl) (by kernel_rfl)) (by kernel_rfl) (by kernel_rfl) (by kernel_rfl) (xdoor_met os _)) ?_
  intro W base args ds gs before hval0 hW _ hsz hL _
  have hT := vars_of_laid hL
  have hval : ∀ (j : Nat) t v, Tryz.f8.params[j]? = some t → args[j]? = some v → Value.okWide Tryz.prog W .any base t v := hval0
  have hW' := hW
  obtain ⟨p, q, hA0, hV, rfl, _, _⟩ := hW
  have hA : DataW.TrodAll enc Tryz.prog W 0 (fun _ => true) true Tryz.f8.params.toList args.toList ds p := hA0
  rw [Tryz.params8] at hA hval
  obtain ⟨v0, vs0, d0, ds0, p0, q0, hargs, rfl, rfl, h0, r0⟩ := trodAll_cons hA
  obtain ⟨v1, vs1, d1, ds1, p1, q1, rfl, rfl, rfl, h1, r1⟩ := trodAll_cons r0
  obtain ⟨rfl, rfl, rfl⟩ := trodAll_nil r1
  obtain rfl : args = #[v0, v1] := by cases args; simp_all
  obtain ⟨rfl, rfl⟩ := trodVars_none hV
  have lt0 : ∀ x ∈ p0, x.block < W.heap.size := by obtain ⟨m, hm⟩ := h0; exact DataW.trod_lt m _ _ _ hm
  have lt1 : ∀ x ∈ p1, x.block < W.heap.size := by obtain ⟨m, hm⟩ := h1; exact DataW.trod_lt m _ _ _ hm
  have k_0 := h0
  have k_1 := h1
  obtain ⟨a0, q0_, c0, b0, r0_, e0, qu0, rfl, hq0, hl0⟩ := open_query (hval 0 26 v0 rfl rfl) h0 (fun q hq => by
    have h8 := List.all_eq_true.1 hsz q (DataW.weights_mem_each (j := 0) (t := 26) (d := d0) (by kernel_rfl) rfl q hq)
    simpa using h8)
  obtain ⟨n1, rfl, _, _, hw1⟩ := open_int Tryz.underlying5 (hval 1 5 v1 rfl rfl) h1
  have hn1 : (0 : Int) ≤ n1 ∧ n1 ≤ 255 := by
    have h8 : (decide ((0 : Int) ≤ n1) && decide (n1 ≤ 255)) = true := hw1
    simpa using h8
  clear hA0 hval0
  refine (tchanged_walk W hT.1 hT.2 hq0 hl0 n1 hn1).mono fun e W' ⟨he, bel⟩ => ?_
  subst he
  exact ⟨_, rfl, _, _, _, [], _, [], hW', trodAll_mk1 (shut_bool Tryz.underlying4 _), (trodAll_cons_mk (Below.trod xlaidOut (by kernel_rfl) (of_decide_eq_true (by kernel_rfl)) k_0 bel lt0) (trodAll_cons_mk (Below.trod xlaidOut (by kernel_rfl) (of_decide_eq_true (by kernel_rfl)) k_1 bel lt1) trodAll_mk0)), rfl, bel.frame _, fun h => by cases h⟩

theorem row_holds : Rows.TreeChangedSaid :=
  OpenClaim.holds_of_wide 8 Tryz.f8 rfl rfl rfl rfl rfl rfl rfl ⟨rfl, rfl, rfl, rfl, rfl⟩ rfl rfl rfl rfl rfl (by kernel_rfl) Tryz.func8 (by kernel_rfl)
    (of_decide_eq_true (by kernel_rfl)) (by unfold Func.isWrapper; first | (rw [if_pos (by decide +kernel)]; kernel_rfl) | (rw [if_neg (by decide +kernel)]; exact ⟨rfl, rfl⟩))
    (fun os started H enc _ => lifted os started H enc)

theorem holds : Rows.TreeChangedCardSaid :=
  Claim7.holds_tied_plain_at .later [] [.data, .data, .data, .sentinel, .sentinel, .data] true _ true row_holds (fun _ h => by cases h) (by kernel_rfl) (fun _ h => by cases h) treeChanged_row_tie rfl ⟨rfl, rfl⟩ (by kernel_rfl) rfl
    (fun f fn hf hfn => by
      obtain rfl : f = 8 := Option.some.inj ((show Tryz.prog.funcNamed "augury/augurylaw08.TreeChanged" = some 8 by kernel_rfl).symm.trans hf) |>.symm
      obtain rfl : fn = Tryz.f8 := (Option.some.inj (Tryz.func8.symm.trans hfn)).symm
      exact ⟨by kernel_rfl, fun j t ht => by
        rw [Tryz.params8] at ht
        have hm : t ∈ [26, 5] := by simpa using Array.mem_of_getElem? ht
        have hall : ([26, 5].all fun u => !Tryz.prog.wantsStandIn u) = true := by kernel_rfl
        exact (show Tryz.prog.wantsStandIn t = false by simpa using List.all_eq_true.1 hall t hm)⟩)
    (by kernel_rfl)
end treeChanged
end Go.Proofs.YtndmbljpfpnehaaGreatDoor
