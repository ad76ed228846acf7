/- Events: rows of values that are appended and sliced; what Fits answers of one schema. -/
import Derived.Test.YtppgecbjdkfohaaECe
import Derived.Laws.AppendOwnNone
namespace Go.Proofs.Ytppgecbjdkfohaa
open Go.RowKit Go.Lib Go.Op

/-- Values in a row, as a slice. -/
def VSl (w : World) (v : Value) (vs : List VIn) : Prop := ∃ a c, v = .slice a vs.length c ∧ vs.length ≤ c ∧ c ≤ maxLen ∧ (a = none → c = 0) ∧ VRow w a vs

theorem VSl.below {w w' : World} {v : Value} {vs : List VIn} (h : VSl w v vs) (hb : Below w.heap.size w w') : VSl w' v vs := by
  obtain ⟨a, c, h1, h2, h3, h4, h5⟩ := h
  exact ⟨a, c, h1, h2, h3, h4, h5.below hb⟩

theorem efld_add (A : Addr) (k j f : Nat) : efld (A.add (k * 3)) 3 j f = efld A 3 (k + j) f := by
  have h : (k + j) * 3 = k * 3 + j * 3 := by omega
  unfold efld
  rw [Addr.add_add, h]

/-- Values from a place on. -/
theorem VSl.drop {w : World} {v : Value} {vs : List VIn} (h : VSl w v vs) {k : Nat} (hk : k ≤ vs.length) :
    ∃ v', (∀ W : World, (Instr.slice 23 v (some (.int .i64 k)) none none).run Try.prog W = .ok v' W) ∧ VSl w v' (vs.drop k) := by
  obtain ⟨a, c, rfl, h1, h2, h3, hx⟩ := h
  refine ⟨.slice (if c = k then a else a.map (·.add (k * 3))) (vs.length - k) (c - k), fun W => ?_, ?_⟩
  · have hz : (sizeOf 52).run Try.prog W = .ok 3 W := by kernel_rfl
    rw [run_slice_l (P := Try.prog) W 23 a vs.length c (by kernel_rfl) .i64 (k : Int) (by omega) (by omega)]
    have he : Try.prog.elem 23 = 52 := by kernel_rfl
    rw [he, hz]
    simp [Result.andThen, sliced]
  · refine ⟨_, c - k, by rw [List.length_drop], by rw [List.length_drop]; omega, by omega, fun hn => ?_, fun j x hj => ?_⟩
    · split at hn
      · omega
      · cases a with
        | none => have := h3 rfl; omega
        | some A => cases hn
    · rw [List.getElem?_drop] at hj
      obtain ⟨A, rfl, h5, h6, h7, h8⟩ := hx (k + j) x hj
      have hlt : k + j < vs.length := (List.getElem?_eq_some_iff.1 hj).1
      have hck : c ≠ k := by omega
      refine ⟨A.add (k * 3), by simp [hck], ?_, ?_, ?_, h8⟩
      · rw [Addr.add_add, show k * 3 + j * 3 = (k + j) * 3 by omega]; exact h5
      · rw [efld_add]; exact h6
      · rw [efld_add]; exact h7

/-- Values up to a place. -/
theorem VSl.upto {w : World} {v : Value} {vs : List VIn} (h : VSl w v vs) {m : Nat} (hm : m ≤ vs.length) :
    ∃ v', (∀ W : World, (Instr.slice 23 v none (some (.int .i64 m)) none).run Try.prog W = .ok v' W) ∧ VSl w v' (vs.take m) := by
  obtain ⟨a, c, rfl, h1, h2, h3, hx⟩ := h
  have hlen : (vs.take m).length = m := by rw [List.length_take]; omega
  refine ⟨.slice a m c, fun W => ?_, ?_⟩
  · have hz : (sizeOf 52).run Try.prog W = .ok 3 W := by kernel_rfl
    rw [run_slice_h (P := Try.prog) W 23 a vs.length c (by kernel_rfl) .i64 (m : Int) (by omega) (by omega)]
    have he : Try.prog.elem 23 = 52 := by kernel_rfl
    rw [he, hz]
    cases a <;> simp [Result.andThen, sliced, Addr.add]
  · refine ⟨_, c, by rw [hlen], by rw [hlen]; omega, h2, h3, fun j x hj => ?_⟩
    have hjm : j < m := by
      have := (List.getElem?_eq_some_iff.1 hj).1
      omega
    rw [List.getElem?_take_of_lt hjm] at hj
    exact hx j x hj

/-- The cells of a row, one by one. -/
theorem VRow.src {w : World} {A : Addr} {vs : List VIn} (h : VRow w (some A) vs) : ∀ j u, (valCells vs)[j]? = some u → w.cell? (A.add j) = some u := by
  intro j u hj
  have hlen : ∀ l : List VIn, (valCells l).length = l.length * 3 := by
    intro l
    induction l with
    | nil => rfl
    | cons x l ih => rw [valCells, List.length_append, ih, List.length_cons]; simp [vCells]; omega
  have hjl := (List.getElem?_eq_some_iff.1 hj).1
  rw [hlen] at hjl
  obtain ⟨q, r, hr, rfl⟩ : ∃ q r, r < 3 ∧ j = q * 3 + r := ⟨j / 3, j % 3, Nat.mod_lt _ (by omega), by omega⟩
  have hq : q < vs.length := by omega
  obtain ⟨A', e, h0, h1, h2, _⟩ := h q _ (List.getElem?_eq_getElem hq)
  injection e with e
  subst e
  rw [valCells_at vs q _ r (List.getElem?_eq_getElem hq) hr] at hj
  unfold efld at h1 h2
  have ha : ∀ i, 0 < i → A.add (q * 3 + i) = ⟨(A.add (q * 3)).block, (A.add (q * 3)).off + i, none⟩ := fun i hi => by
    unfold Addr.add
    rw [if_neg (by omega)]
    split
    · rename_i h0; simp [h0]
    · simp; omega
  match r, hr with
  | 0, _ => injection hj with hj; rw [← hj, Nat.add_zero]; exact h0
  | 1, _ => injection hj with hj; rw [← hj, ha 1 (by omega)]; exact h1
  | 2, _ => injection hj with hj; rw [← hj, ha 2 (by omega)]; exact h2

theorem valCells_oneCell : ∀ (l : List VIn), ∀ u ∈ valCells l, u.oneCell' = true
  | [], u, hu => by cases hu
  | x :: l, u, hu => by
    rw [valCells, List.mem_append] at hu
    rcases hu with h | h
    · exact vCells_oneCell x u h
    · exact valCells_oneCell l u h
theorem valCells_len : ∀ (l : List VIn), (valCells l).length = l.length * 3
  | [] => rfl
  | x :: l => by rw [valCells, List.length_append, valCells_len l, List.length_cons]; simp [vCells]; omega

/-- A row of the call's own, with values behind. -/
def VOwn (w : World) (base : Nat) (v : Value) (vs : List VIn) : Prop := w.ownsRow base 52 3 v vs.length (valCells vs)

theorem VOwn.empty (w : World) {base : Nat} (hb : base ≤ w.heap.size) : VOwn (w.alloc (.cells #[] 52)) base (.slice (some ⟨w.heap.size, 0, none⟩) 0 0) [] :=
  ⟨rfl, .inr ⟨w.heap.size, 0, #[], rfl, hb, heap_alloc_new w _, Nat.le_refl _, Nat.zero_le _, rfl, rfl⟩⟩
theorem VOwn.alloc {w : World} {base : Nat} {v : Value} {vs : List VIn} (h : VOwn w base v vs) (o : Obj) : VOwn (w.alloc o) base v vs := World.ownsRow.alloc h o
theorem VOwn.drew {w : World} {base : Nat} {v : Value} {vs : List VIn} (h : VOwn w base v vs) : VOwn w.drew base v vs := h

theorem VOwn.sl {w : World} {base : Nat} {v : Value} {vs : List VIn} (h : VOwn w base v vs) (hs : ∀ x ∈ vs, x.2.2.size ≤ maxLen) : VSl w v vs := by
  obtain ⟨a, c, rfl⟩ := vowns_slice h
  have hr := VRow.of_owns h hs rfl
  rcases h.2 with ⟨h1, h0⟩ | ⟨g, cap, cur, h1, h2, h3, h4⟩
  · injection h1 with e1 e2 e3
    subst e1 e3
    exact ⟨none, 0, rfl, by omega, Nat.zero_le _, fun _ => rfl, hr⟩
  · obtain ⟨h5, h6, _⟩ := h4
    injection h1 with e1 e2 e3
    subst e1 e3
    exact ⟨_, _, rfl, h5, h6, fun e => (by cases e), hr⟩

/-- 'append(own, row...)', run. -/
theorem run_append_vals {w : World} {B : Nat} {y : Value} {vs : List VIn} (hv : VSl w y vs) {v : Value} {ws : List VIn} (hown : VOwn w B v ws) (hl : ws.length + vs.length ≤ 1000) (hB : B ≤ w.heap.size) (ty : TypeId) :
    ∃ v' w', (Builtin.append_ #[23, 23] ty #[v, y]).run Try.prog w = .ok v' w' ∧ VOwn w' B v' (ws ++ vs) ∧ w.grownBy w' v.ownBlock := by
  obtain ⟨i0, hi, hz⟩ := Option.map_eq_some_iff.1 infoV
  injection hz with hz0 hz
  injection hz with hz1 hz2
  obtain ⟨ad, c, rfl, h1, h2, h3, h4⟩ := hv
  cases ad with
  | none =>
    obtain rfl := h3 rfl
    obtain rfl : vs = [] := List.eq_nil_of_length_eq_zero (by omega)
    refine ⟨v, w, run_append_owned_none w B 23 ty 52 i0 3 Try.underlying23 hi v ws.length _ hown, ?_, ⟨rfl, rfl, rfl, Nat.le_refl _, fun _ _ _ => rfl⟩⟩
    rw [List.append_nil]; exact hown
  | some A =>
    obtain ⟨v', w', h5, h6, h7, _⟩ := run_append_own (P := Try.prog) w B 23 ty 52 i0 (.agg #[.int .i64 0, .int .i64 0, .string .empty]) 3 32 Try.underlying23 hi hz0 hz1 hz2 rfl (by decide) v ws.length (valCells ws) hown A vs.length c (valCells vs) (valCells_len vs) h4.src (valCells_oneCell vs) (by unfold maxLen; omega) (by omega) hB
    refine ⟨v', w', h5, ?_, h7⟩
    unfold VOwn
    rw [valCells_append, List.length_append]
    exact h6

/-- One value in a row of its own. -/
theorem VSl.one (W : World) (k n : Int) (s : ByteArray) (hs : s.size ≤ maxLen) : VSl (W.alloc (.cells #[.int .i64 k, .int .i64 n, .string s] 52)) (.slice (some ⟨W.heap.size, 0, none⟩) 1 1) [(k, n, s)] := by
  refine ⟨_, 1, rfl, Nat.le_refl _, by unfold maxLen; decide, fun e => (by cases e), fun j x hj => ?_⟩
  obtain ⟨rfl, rfl⟩ : j = 0 ∧ (k, n, s) = x := by
    cases j with
    | zero => exact ⟨rfl, by simpa using hj⟩
    | succ j => simp at hj
  refine ⟨_, rfl, ?_, ?_, ?_, hs⟩
  · rw [Nat.zero_mul, Addr.add_zero']; exact new_cell _ _ _ rfl rfl
  · unfold efld; rw [Nat.zero_mul, Addr.add_zero']; exact new_cell _ _ _ rfl rfl
  · unfold efld; rw [Nat.zero_mul, Addr.add_zero']; exact new_cell _ _ _ rfl rfl

/-- What a growing row leaves as it was. -/
theorem VSl.grown {w w' : World} {row : Option Nat} (hg : w.grownBy w' row) {b : Nat} {vs : List VIn} {l c : Nat} (h : VSl w (.slice (some ⟨b, 0, none⟩) l c) vs) (hb : some b ≠ row) : VSl w' (.slice (some ⟨b, 0, none⟩) l c) vs := by
  obtain ⟨a, c', e, h1, h2, h3, h4⟩ := h
  injection e with e1 e2 e3
  subst e1 e2 e3
  refine ⟨_, _, rfl, h1, h2, h3, fun j x hj => ?_⟩
  obtain ⟨A, e, h5, h6, h7, h8⟩ := h4 j x hj
  injection e with e
  subst e
  have hq : ∀ q, ((⟨b, 0, none⟩ : Addr).add q).block = b := fun q => by unfold Addr.add; split <;> rfl
  have key : ∀ {p : Addr} {u : Value}, p.block = b → w.cell? p = some u → w'.cell? p = some u := fun {p u} hp hc => hg.cell hc (by rw [hp]; exact hb)
  exact ⟨_, rfl, key (hq _) h5, key (hq _) h6, key (hq _) h7, h8⟩

/-- What Fits answers of one schema. -/
theorem fits_one (S : SIn) (n : ByteArray) (vs : List VIn) : fitsI [S] n vs = if nameIs n S.name then (if kindsB vs S.fs then 0 else 42) else 12 := by
  unfold fitsI
  cases h : nameIs n S.name <;> simp [List.findIdx?_cons, h]

/-- The whole answer. -/
def fitsA (l : List SIn) (t d s : Int) (n : ByteArray) (vs : List VIn) : Int := if rightE (pe t d s n vs) then fitsI l n vs else 1

theorem fitsA_ok {S : SIn} {t d s : Int} {n : ByteArray} {vs : List VIn} : fitsA [S] t d s n vs = 0 ↔ rightE (pe t d s n vs) = true ∧ nameIs n S.name = true ∧ kindsB vs S.fs = true := by
  unfold fitsA
  rw [fits_one]
  cases rightE (pe t d s n vs) <;> cases nameIs n S.name <;> cases kindsB vs S.fs <;> simp

theorem kindsB_iff {vs : List VIn} {fs : List FIn} : kindsB vs fs = true ↔ vs.map (·.1) = fs.map (·.2) := by unfold kindsB; rw [decide_eq_true_eq]

theorem right_of {t d s : Int} {n : ByteArray} {vs ws : List VIn} (h : rightE (pe t d s n vs) = true) (hl : ws.length ≤ 8) (hw : ∀ x ∈ ws, x ∈ vs ∨ rightB (pv x) = true) : rightE (pe t d s n ws) = true := by
  obtain ⟨h1, h2, h3, h4, h5, h6⟩ := rightE_iff.1 h
  refine rightE_iff.2 ⟨h1, h2, h3, h4, by simpa [pe] using hl, ?_⟩
  simp only [pe, List.all_eq_true, List.mem_map] at h6 ⊢
  rintro _ ⟨x, hx, rfl⟩
  rcases hw x hx with h | h
  · exact h6 _ ⟨x, h, rfl⟩
  · exact h

/-- With one more it does not fit. -/
theorem fits_more {S : SIn} {t d s : Int} {n : ByteArray} {vs : List VIn} (h : fitsA [S] t d s n vs = 0) (x : VIn) : fitsA [S] t d s n (vs ++ [x]) ≠ 0 := by
  intro h2
  have h3 := kindsB_iff.1 (fitsA_ok.1 h).2.2
  have h4 := kindsB_iff.1 (fitsA_ok.1 h2).2.2
  have h5 := congrArg List.length h3
  have h6 := congrArg List.length h4
  simp at h5 h6
  omega

/-- With one less, just its kinds are wrong. -/
theorem fits_less {S : SIn} {t d s : Int} {n : ByteArray} {vs : List VIn} (h : fitsA [S] t d s n vs = 0) {k : Nat} (hk : k < vs.length) : fitsA [S] t d s n (vs.take k ++ vs.drop (k + 1)) = 42 := by
  obtain ⟨h1, h2, h3⟩ := fitsA_ok.1 h
  have h8 := (rightE_iff.1 h1).2.2.2.2.1
  have h8' : vs.length ≤ 8 := by simpa [pe] using h8
  have hr : rightE (pe t d s n (vs.take k ++ vs.drop (k + 1))) = true := right_of h1 (by rw [List.length_append, List.length_take, List.length_drop]; omega) fun x hx => by
    rcases List.mem_append.1 hx with h | h
    · exact .inl (List.mem_of_mem_take h)
    · exact .inl (List.mem_of_mem_drop h)
  have hn : kindsB (vs.take k ++ vs.drop (k + 1)) S.fs = false := by
    cases h9 : kindsB (vs.take k ++ vs.drop (k + 1)) S.fs with
    | false => rfl
    | true =>
      exfalso
      have h5 := congrArg List.length (kindsB_iff.1 h9)
      have h6 := congrArg List.length (kindsB_iff.1 h3)
      simp only [List.length_map, List.length_append, List.length_take, List.length_drop] at h5 h6
      omega
  unfold fitsA
  rw [hr, fits_one, h2, hn]
  rfl

/-- With another one at a place it fits if that is of its kind. -/
theorem fits_other {S : SIn} {t d s : Int} {n : ByteArray} {vs : List VIn} (h : fitsA [S] t d s n vs = 0) {k : Nat} (hk : k < vs.length) {x : VIn} (hx : rightB (pv x) = true) {f : FIn} (hf : S.fs[k]? = some f) :
    (fitsA [S] t d s n (vs.take k ++ x :: vs.drop (k + 1)) = 0) ↔ x.1 = f.2 := by
  obtain ⟨h1, h2, h3⟩ := fitsA_ok.1 h
  have h8 := (rightE_iff.1 h1).2.2.2.2.1
  have h8' : vs.length ≤ 8 := by simpa [pe] using h8
  have hr : rightE (pe t d s n (vs.take k ++ x :: vs.drop (k + 1))) = true := right_of h1 (by simp; omega) fun y hy => by
    rcases List.mem_append.1 hy with h | h
    · exact .inl (List.mem_of_mem_take h)
    · rcases List.mem_cons.1 h with rfl | h
      · exact .inr hx
      · exact .inl (List.mem_of_mem_drop h)
  have hm := kindsB_iff.1 h3
  have hkf : k < S.fs.length := (List.getElem?_eq_some_iff.1 hf).1
  have e1 : vs.take k ++ x :: vs.drop (k + 1) = vs.set k x := by rw [List.set_eq_take_append_cons_drop, if_pos hk]
  rw [fitsA_ok, e1, kindsB_iff, List.map_set, hm]
  rw [e1] at hr
  constructor
  · rintro ⟨_, _, h9⟩
    have h10 := congrArg (·[k]?) h9
    simp [List.getElem?_set, hkf, hf] at h10
    obtain ⟨_, rfl⟩ := List.getElem?_eq_some_iff.1 hf
    exact h10
  · intro h9
    refine ⟨hr, h2, ?_⟩
    rw [h9]
    refine List.ext_getElem? fun j => ?_
    rw [List.getElem?_set]
    split
    · rename_i e
      subst e
      rw [List.getElem?_map, hf]
      simp [hkf]
    · rfl

end Go.Proofs.Ytppgecbjdkfohaa
