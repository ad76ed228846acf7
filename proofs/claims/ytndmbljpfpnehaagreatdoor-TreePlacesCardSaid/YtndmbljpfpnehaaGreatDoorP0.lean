/- TreePlaces holds: an error's place is in the text, or its end; what stands ahead of it, alone, has no error of parsing ahead of its own end. No condition. -/
import Derived.Test.YtndmbljpfpnehaaGreatDoorMG
namespace Go.Proofs.YtndmbljpfpnehaaGreatDoor
open Go.Lib

/-- Nothing is left, and the place of what is wrong is one of some. -/
def Dn (P : Int → Prop) (s : RS) : Prop := s.l = [] ∧ P s.wrong

section
variable {E : Nat} {P : Int → Prop} {s : RS}
theorem Dn.isT (h : Dn P s) {k : Nat} (hk : k ≠ 0) (b : List UInt8) : isT E s k b = false := by
  unfold Go.Proofs.YtndmbljpfpnehaaGreatDoor.isT nextT
  rw [h.1]
  simp
  intro e
  exact absurd e.symm hk
theorem Dn.next (h : Dn P s) : nextT E s = ⟨0, [], E⟩ := by unfold nextT; rw [h.1]
theorem Dn.take (h : Dn P s) {k : Nat} (hk : k ≠ 0) (b : List UInt8) : takeT E s k b = (false, s) := by
  unfold takeT
  rw [h.isT hk, if_neg (by simp)]
theorem Dn.fail (hP : P (-1) → P E) (h : Dn P s) : Dn P (failT E s) := ⟨rfl, by
  unfold failT
  (try dsimp only)
  rw [h.next]
  split
  · rename_i e
    exact hP (e ▸ h.2)
  · exact h.2⟩
theorem Dn.among (h : Dn P s) {k : Nat} (hk : k ≠ 0) (l : List (List UInt8)) (n : Nat) : amongT E s k n l = (0, s) := amongT_none k l n (fun b _ => h.isT hk b)
end

/-- Two readers: one of tokens and more behind, the other one of these alone; where they end; a place that is none of these tokens'. -/
structure Sim where
  E : Nat
  T : Nat
  P : Int
  r : List XTok

section
variable (X : Sim)
def Sync (s s' : RS) : Prop := s'.l ≠ [] ∧ s.l = s'.l ++ X.r ∧ s.deep = s'.deep ∧ s.wrong = -1 ∧ s'.wrong = -1 ∧ ∀ u ∈ s'.l, (u.at_ : Int) ≠ X.P
def Over (s : RS) : Prop := Dn (fun x => x = -1 ∨ x = X.T) s
def Bad (s : RS) : Prop := Dn (fun x => x ≠ -1 ∧ x ≠ X.P) s
def Rl {α : Type} (a a' : α × RS) : Prop := (Sync X a.2 a'.2 ∧ a.1 = a'.1) ∨ Over X a'.2 ∨ Bad X a.2
structure GoodR {α : Type} (m m' : Nat) (f f' : RS → α × RS) : Prop where
  sync : ∀ s s', s.l.length ≤ m → s'.l.length ≤ m' → Sync X s s' → Rl X (f s) (f' s')
  over : ∀ s, Over X s → Over X (f' s).2
  bad : ∀ s, Bad X s → Bad X (f s).2
  le : ∀ s, (f s).2.l.length ≤ s.l.length
  le' : ∀ s, (f' s).2.l.length ≤ s.l.length
end

section
variable {X : Sim} {α β : Type} {m m' : Nat}
theorem GoodR.low {f f' : RS → α × RS} (h : GoodR X m m' f f') {n n' : Nat} (hn : n ≤ m) (hn' : n' ≤ m') : GoodR X n n' f f' := ⟨fun s s' h1 h2 => h.sync s s' (Nat.le_trans h1 hn) (Nat.le_trans h2 hn'), h.over, h.bad, h.le, h.le'⟩
theorem GoodR.bind {f f' : RS → α × RS} {g g' : α → RS → β × RS} (h : GoodR X m m' f f') (hg : ∀ a, GoodR X m m' (g a) (g' a)) : GoodR X m m' (fun s => g (f s).1 (f s).2) (fun s => g' (f' s).1 (f' s).2) :=
  ⟨fun s s' h1 h2 hs => by
    rcases h.sync s s' h1 h2 hs with ⟨h3, h4⟩ | h3 | h3
    · rw [h4]
      exact (hg _).sync _ _ (Nat.le_trans (h.le s) h1) (Nat.le_trans (h.le' s') h2) h3
    · exact .inr (.inl ((hg _).over _ h3))
    · exact .inr (.inr ((hg _).bad _ h3)), fun s hs => (hg _).over _ (h.over s hs), fun s hs => (hg _).bad _ (h.bad s hs), fun s => Nat.le_trans ((hg _).le _) (h.le s), fun s => Nat.le_trans ((hg _).le' _) (h.le' s)⟩
theorem GoodR.pure (a : α) : GoodR X m m' (fun s => (a, s)) (fun s => (a, s)) := ⟨fun _ _ _ _ h => .inl ⟨h, rfl⟩, fun _ h => h, fun _ h => h, fun _ => Nat.le_refl _, fun _ => Nat.le_refl _⟩
theorem GoodR.map {f f' : RS → α × RS} (h : GoodR X m m' f f') (p : α → β) : GoodR X m m' (fun s => (p (f s).1, (f s).2)) (fun s => (p (f' s).1, (f' s).2)) := h.bind (g := fun a s => (p a, s)) (g' := fun a s => (p a, s)) (fun a => GoodR.pure (p a))
theorem Sync.next {s s' : RS} (h : Sync X s s') (E E' : Nat) : nextT E s = nextT E' s' := by
  obtain ⟨h1, h2, _⟩ := h
  unfold nextT
  rw [h2]
  cases hl : s'.l with
  | nil => exact absurd hl h1
  | cons u r => rfl
theorem Sync.isT {s s' : RS} (h : Sync X s s') (E E' : Nat) (k : Nat) (b : List UInt8) : isT E s k b = isT E' s' k b := by
  unfold Go.Proofs.YtndmbljpfpnehaaGreatDoor.isT
  rw [h.next E E']
theorem Sync.tail {s s' : RS} (h : Sync X s s') : Rl X ((), (⟨s.l.tail, s.deep, s.wrong⟩ : RS)) ((), (⟨s'.l.tail, s'.deep, s'.wrong⟩ : RS)) := by
  obtain ⟨h1, h2, h3, h4, h5, h6⟩ := h
  cases hl : s'.l with
  | nil => exact absurd hl h1
  | cons u r =>
    by_cases hr : r = []
    · exact .inr (.inl ⟨hr, .inl h5⟩)
    · refine .inl ⟨⟨hr, ?_, h3, h4, h5, fun v hv => h6 v (by rw [hl]; exact List.mem_cons_of_mem _ hv)⟩, rfl⟩
      show s.l.tail = _
      rw [h2, hl]
      rfl
theorem Rl.val {a a' : RS} (h : Rl X ((), a) ((), a')) {x x' : α} (hx : x = x') : Rl X (x, a) (x', a') := h.imp (fun h => ⟨h.1, hx⟩) id
theorem Sync.fail {s s' : RS} (h : Sync X s s') : Bad X (failT X.E s) := by
  obtain ⟨h1, h2, h3, h4, h5, h6⟩ := h
  refine ⟨rfl, ?_⟩
  unfold failT nextT
  (try dsimp only)
  rw [h4, if_pos rfl, h2]
  cases hl : s'.l with
  | nil => exact absurd hl h1
  | cons u r =>
    have := h6 u (by rw [hl]; exact List.mem_cons_self)
    dsimp only [List.cons_append]
    exact ⟨by omega, this⟩
theorem over_fail {s : RS} (h : Over X s) : Over X (failT X.T s) := Dn.fail (fun _ => .inr rfl) h
theorem bad_fail {s : RS} (h : Bad X s) : Bad X (failT X.E s) := Dn.fail (fun h => absurd rfl h.1) h

theorem failG (a : α) : GoodR X m m' (fun s => (a, failT X.E s)) (fun s => (a, failT X.T s)) := ⟨fun _ _ _ _ h => .inr (.inr h.fail), fun _ h => over_fail h, fun _ h => bad_fail h, fun _ => failT_le, fun _ => failT_le⟩
theorem takeG {k : Nat} (hk : k ≠ 0) (b : List UInt8) : GoodR X m m' (fun s => takeT X.E s k b) (fun s => takeT X.T s k b) := ⟨fun s s' _ _ h => by
  unfold takeT
  rw [h.isT X.E X.T]
  split
  · exact h.tail.val rfl
  · exact .inl ⟨h, rfl⟩, fun s h => by rw [Dn.take h hk]; exact h, fun s h => by rw [Dn.take h hk]; exact h, fun s => takeT_le k b, fun s => takeT_le k b⟩
theorem GoodR.ite {f f' g g' : RS → α × RS} {c c' : RS → Bool} (hc : ∀ s s', Sync X s s' → c s = c' s') (hf : GoodR X m m' f f') (hg : GoodR X m m' g g') : GoodR X m m' (fun s => if c s then f s else g s) (fun s => if c' s then f' s else g' s) := ⟨fun s s' h1 h2 h => by
  (try dsimp only)
  rw [hc s s' h]
  split
  · exact hf.sync s s' h1 h2 h
  · exact hg.sync s s' h1 h2 h, fun s h => by
  (try dsimp only)
  split
  · exact hf.over s h
  · exact hg.over s h, fun s h => by
  (try dsimp only)
  split
  · exact hf.bad s h
  · exact hg.bad s h, fun s => by
  (try dsimp only)
  split
  · exact hf.le s
  · exact hg.le s, fun s => by
  (try dsimp only)
  split
  · exact hf.le' s
  · exact hg.le' s⟩
theorem GoodR.iteP {f f' g g' : RS → α × RS} {c c' : RS → Prop} [∀ s, Decidable (c s)] [∀ s, Decidable (c' s)] (hc : ∀ s s', Sync X s s' → (c s ↔ c' s')) (hf : GoodR X m m' f f') (hg : GoodR X m m' g g') : GoodR X m m' (fun s => if c s then f s else g s) (fun s => if c' s then f' s else g' s) := by
  have h := GoodR.ite (c := fun s => decide (c s)) (c' := fun s => decide (c' s)) (fun s s' h => by simp only [hc s s' h]) hf hg
  simpa only [decide_eq_true_eq] using h
theorem needG {k : Nat} (hk : k ≠ 0) (b : List UInt8) : GoodR X m m' (fun s => ((), needT X.E s k b)) (fun s => ((), needT X.T s k b)) := by
  have h := (takeG (X := X) (m := m) (m' := m') hk b).bind (g := fun z s => ((), if z then s else failT X.E s)) (g' := fun z s => ((), if z then s else failT X.T s)) (fun z => by
    cases z with
    | true => exact GoodR.pure ()
    | false => exact failG ())
  exact h
theorem ofG (k : Nat) (hk : k ≠ 0) : GoodR X m m' (fun s => ofT X.E s k) (fun s => ofT X.T s k) := by
  refine ⟨fun s s' _ _ h => ?_, fun s h => ?_, fun s h => ?_, fun s => ofT_le k, fun s => ofT_le k⟩
  · unfold ofT
    rw [h.next X.E X.T]
    split
    · exact h.tail.val rfl
    · exact .inr (.inr h.fail)
  · unfold ofT
    rw [Dn.next h, if_neg (by exact fun e => hk e.symm)]
    exact over_fail h
  · unfold ofT
    rw [Dn.next h, if_neg (by exact fun e => hk e.symm)]
    exact bad_fail h
theorem numberG : GoodR X m m' (fun s => numberT X.E s) (fun s => numberT X.T s) := (ofG 2 (by decide)).map numZ
theorem nameG : GoodR X m m' (fun s => nameT X.E s) (fun s => nameT X.T s) := by
  have h := (GoodR.ite (X := X) (m := m) (m' := m') (c := fun s => keyB (nextT X.E s).b) (c' := fun s => keyB (nextT X.T s).b) (fun s s' h => by rw [h.next X.E X.T]) (failG ()) (GoodR.pure ())).bind (g := fun _ s => ofT X.E s 1) (g' := fun _ s => ofT X.T s 1) (fun _ => ofG 1 (by decide))
  refine ⟨fun s s' h1 h2 hs => ?_, fun s hs => ?_, fun s hs => ?_, fun s => nameT_le, fun s => nameT_le⟩
  · have := h.sync s s' h1 h2 hs
    unfold nameT
    revert this
    (try dsimp only)
    cases keyB (nextT X.E s).b <;> cases keyB (nextT X.T s').b <;> exact id
  · have := h.over s hs
    unfold nameT
    revert this
    (try dsimp only)
    cases keyB (nextT X.T s).b <;> exact id
  · have := h.bad s hs
    unfold nameT
    revert this
    (try dsimp only)
    cases keyB (nextT X.E s).b <;> exact id
theorem amongG {k : Nat} (hk : k ≠ 0) : ∀ (l : List (List UInt8)) (n : Nat), GoodR X m m' (fun s => amongT X.E s k n l) (fun s => amongT X.T s k n l)
  | [], _ => GoodR.pure 0
  | b :: l, n => GoodR.ite (c := fun s => isT X.E s k b) (c' := fun s => isT X.T s k b) (fun _ _ h => h.isT _ _ _ _) ((takeG hk b).map fun _ => n) (amongG hk l (n + 1))
theorem chooseG {k : Nat} (hk : k ≠ 0) (l : List (List UInt8)) : GoodR X m m' (fun s => chooseT X.E s k l) (fun s => chooseT X.T s k l) := by
  have h := (amongG (X := X) (m := m) (m' := m') hk l 0).bind (g := fun n s => if n = 0 then (0, failT X.E s) else (n, s)) (g' := fun n s => if n = 0 then (0, failT X.T s) else (n, s)) (fun n => by
    by_cases hn : n = 0
    · simp only [if_pos hn]
      exact failG 0
    · simp only [if_neg hn]
      exact GoodR.pure n)
  exact h
theorem fieldG (k : Int) : GoodR X m m' (fun s => fieldT X.E s k) (fun s => fieldT X.T s k) :=
  nameG.bind (g := fun a s => (PEx.mk k noV a (nameT X.E (needT X.E s 4 [46])).1 [], (nameT X.E (needT X.E s 4 [46])).2)) (g' := fun a s => (PEx.mk k noV a (nameT X.T (needT X.T s 4 [46])).1 [], (nameT X.T (needT X.T s 4 [46])).2))
    fun a => (needG (by decide) [46]).bind (g := fun _ s => (PEx.mk k noV a (nameT X.E s).1 [], (nameT X.E s).2)) (g' := fun _ s => (PEx.mk k noV a (nameT X.T s).1 [], (nameT X.T s).2)) fun _ => nameG.map fun b => PEx.mk k noV a b []
theorem callG (k : Int) : GoodR X m m' (fun s => callT X.E s k) (fun s => callT X.T s k) := by
  by_cases hk : k = 3
  · subst hk
    exact (needG (by decide) [40]).bind (g := fun _ s => (PEx.mk 3 noV (nameT X.E s).1 [] [], needT X.E (nameT X.E s).2 4 [41])) (g' := fun _ s => (PEx.mk 3 noV (nameT X.T s).1 [] [], needT X.T (nameT X.T s).2 4 [41]))
      fun _ => nameG.bind (g := fun a s => (PEx.mk 3 noV a [] [], needT X.E s 4 [41])) (g' := fun a s => (PEx.mk 3 noV a [] [], needT X.T s 4 [41])) fun a => (needG (by decide) [41]).map fun _ => PEx.mk 3 noV a [] []
  · have h := (needG (X := X) (m := m) (m' := m') (k := 4) (by decide) [40]).bind (g := fun _ s => ((fieldT X.E s k).1, needT X.E (fieldT X.E s k).2 4 [41])) (g' := fun _ s => ((fieldT X.T s k).1, needT X.T (fieldT X.T s k).2 4 [41]))
      fun _ => (fieldG k).bind (g := fun a s => (a, needT X.E s 4 [41])) (g' := fun a s => (a, needT X.T s 4 [41])) fun a => (needG (by decide) [41]).map fun _ => a
    have e : ∀ (E : Nat) (s : RS), callT E s k = ((fieldT E (needT E s 4 [40]) k).1, needT E (fieldT E (needT E s 4 [40]) k).2 4 [41]) := fun E s => by unfold callT; simp only [if_neg hk]
    simp only [e]
    exact h
/-- What valT tells, in a pair. -/
def valP (E : Nat) (s : RS) : (PVal × Bool) × RS :=
  if (nextT E s).k = 2 then ((⟨1, (numberT E s).1, []⟩, true), (numberT E s).2)
  else if isT E s 4 [45] = true then ((⟨1, - (numberT E (takeT E s 4 [45]).2).1, []⟩, true), (numberT E (takeT E s 4 [45]).2).2)
  else if (nextT E s).k = 3 then ((⟨2, 0, (ofT E s 3).1⟩, true), (ofT E s 3).2)
  else if isT E s 1 bFalse = true then ((⟨3, 0, []⟩, true), (takeT E s 1 bFalse).2)
  else if isT E s 1 bTrue = true then ((⟨3, 1, []⟩, true), (takeT E s 1 bTrue).2)
  else ((noV, false), s)
theorem valP_eq (E : Nat) (s : RS) : valP E s = (((valT E s).1, (valT E s).2.1), (valT E s).2.2) := by
  unfold valP valT
  split
  · rfl
  · split
    · rfl
    · split
      · rfl
      · split
        · rfl
        · split <;> rfl
theorem valG : GoodR X m m' (fun s => valP X.E s) (fun s => valP X.T s) :=
  GoodR.iteP (c := fun s => (nextT X.E s).k = 2) (c' := fun s => (nextT X.T s).k = 2) (fun s s' h => by rw [h.next X.E X.T]) (numberG.map fun n => ((⟨1, n, []⟩ : PVal), true))
    (GoodR.iteP (c := fun s => isT X.E s 4 [45] = true) (c' := fun s => isT X.T s 4 [45] = true) (fun s s' h => by rw [h.isT X.E X.T])
      ((takeG (k := 4) (by decide) [45]).bind (g := fun _ s => (((⟨1, - (numberT X.E s).1, []⟩ : PVal), true), (numberT X.E s).2)) (g' := fun _ s => (((⟨1, - (numberT X.T s).1, []⟩ : PVal), true), (numberT X.T s).2)) fun _ => numberG.map fun n => ((⟨1, - n, []⟩ : PVal), true))
      (GoodR.iteP (c := fun s => (nextT X.E s).k = 3) (c' := fun s => (nextT X.T s).k = 3) (fun s s' h => by rw [h.next X.E X.T]) ((ofG 3 (by decide)).map fun b => ((⟨2, 0, b⟩ : PVal), true))
        (GoodR.iteP (c := fun s => isT X.E s 1 bFalse = true) (c' := fun s => isT X.T s 1 bFalse = true) (fun s s' h => by rw [h.isT X.E X.T]) ((takeG (k := 1) (by decide) bFalse).map fun _ => ((⟨3, 0, []⟩ : PVal), true))
          (GoodR.iteP (c := fun s => isT X.E s 1 bTrue = true) (c' := fun s => isT X.T s 1 bTrue = true) (fun s s' h => by rw [h.isT X.E X.T]) ((takeG (k := 1) (by decide) bTrue).map fun _ => ((⟨3, 1, []⟩ : PVal), true)) (GoodR.pure (noV, false))))))

theorem sums_over {tm : RS → PEx × RS} (_ : ∀ s, Over X s → Over X (tm s).2) : ∀ (n : Nat) (x : PEx) (s : RS), Over X s → Over X (sumsT X.T tm n x s).2
  | 0, x, s, h => h
  | n + 1, x, s, h => by
    rw [sumsT, Dn.among h (by decide), if_pos rfl]
    exact h
theorem sums_bad {tm : RS → PEx × RS} (_ : ∀ s, Bad X s → Bad X (tm s).2) : ∀ (n : Nat) (x : PEx) (s : RS), Bad X s → Bad X (sumsT X.E tm n x s).2
  | 0, x, s, h => h
  | n + 1, x, s, h => by
    rw [sumsT, Dn.among h (by decide), if_pos rfl]
    exact h
theorem sumsG {tm tm' : RS → PEx × RS} {M M' : Nat} (ht : GoodR X M M' tm tm') : ∀ (m' m : Nat) (x : PEx), m ≤ M → m' ≤ M' → GoodR X m m' (fun s => sumsT X.E tm m x s) (fun s => sumsT X.T tm' m' x s) := fun m' => by
  induction m' with
  | zero => exact fun m x _ _ => ⟨fun s s' _ h2 h => absurd (List.eq_nil_of_length_eq_zero (Nat.le_zero.1 h2)) h.1, fun s h => sums_over ht.over _ _ _ h, fun s h => sums_bad ht.bad _ _ _ h, fun s => sumsT_le ht.le _ _ _, fun s => sumsT_le ht.le' _ _ _⟩
  | succ m' ih =>
    intro m x hM hM'
    refine ⟨fun s s' h1 h2 h => ?_, fun s h => sums_over ht.over _ _ _ h, fun s h => sums_bad ht.bad _ _ _ h, fun s => sumsT_le ht.le _ _ _, fun s => sumsT_le ht.le' _ _ _⟩
    cases m with
    | zero =>
      have : s.l = [] := List.eq_nil_of_length_eq_zero (by omega)
      rw [h.2.1] at this
      exact absurd (List.append_eq_nil_iff.1 this).1 h.1
    | succ m =>
      (try dsimp only)
      rw [sumsT, sumsT]
      have ha := (amongG (X := X) (m := m + 1) (m' := m' + 1) (k := 4) (by decide) sumsL 0).sync s s' h1 h2 h
      rcases ha with ⟨h3, h4⟩ | h3 | h3
      · (try dsimp only at h3 h4)
        rw [h4]
        split
        · exact .inl ⟨h3, rfl⟩
        · rename_i hn
          have l1 := amongT_nz (E := X.E) (s := s) (k := 4) (by decide) (l := sumsL) (n := 0) (by rw [h4]; exact hn)
          have l2 := amongT_nz (E := X.T) (s := s') (k := 4) (by decide) (l := sumsL) (n := 0) hn
          have hb := (ht.low (n := m) (n' := m') (by omega) (by omega)).bind (g := fun a s => sumsT X.E tm m (.mk ((amongT X.T s' 4 0 sumsL).1 : Int) noV [] [] [x, a]) s) (g' := fun a s => sumsT X.T tm' m' (.mk ((amongT X.T s' 4 0 sumsL).1 : Int) noV [] [] [x, a]) s) (fun a => ih m _ (by omega) (by omega))
          exact hb.sync _ _ (by omega) (by omega) h3
      · refine .inr (.inl ?_)
        split
        · exact h3
        · exact sums_over ht.over _ _ _ (ht.over _ h3)
      · refine .inr (.inr ?_)
        split
        · exact h3
        · exact sums_bad ht.bad _ _ _ (ht.bad _ h3)
theorem exprG {tm tm' : RS → PEx × RS} (ht : GoodR X m m' tm tm') : GoodR X m m' (fun s => exprT X.E tm m s) (fun s => exprT X.T tm' m' s) :=
  ht.bind (g := fun a s => sumsT X.E tm m a s) (g' := fun a s => sumsT X.T tm' m' a s) (fun a => sumsG ht m' m a (Nat.le_refl _) (Nat.le_refl _))
theorem deepG (f : Nat → Nat) : GoodR X m m' (fun s => ((), (⟨s.l, f s.deep, s.wrong⟩ : RS))) (fun s => ((), (⟨s.l, f s.deep, s.wrong⟩ : RS))) := ⟨fun s s' _ _ h => .inl ⟨⟨h.1, h.2.1, by rw [h.2.2.1], h.2.2.2⟩, rfl⟩, fun s h => h, fun s h => h, fun s => Nat.le_refl _, fun s => Nat.le_refl _⟩
/-- What stands in brackets, behind the first. -/
def innerR (E : Nat) (tm : RS → PEx × RS) (n : Nat) (s : RS) : PEx × RS :=
  ((exprT E tm n ⟨s.l, s.deep + 1, s.wrong⟩).1, needT E ⟨(exprT E tm n ⟨s.l, s.deep + 1, s.wrong⟩).2.l, (exprT E tm n ⟨s.l, s.deep + 1, s.wrong⟩).2.deep - 1, (exprT E tm n ⟨s.l, s.deep + 1, s.wrong⟩).2.wrong⟩ 4 [41])
theorem innerRG {tm tm' : RS → PEx × RS} (ht : GoodR X m m' tm tm') : GoodR X m m' (fun s => innerR X.E tm m s) (fun s => innerR X.T tm' m' s) :=
  (deepG (· + 1)).bind (g := fun _ s => ((exprT X.E tm m s).1, needT X.E ⟨(exprT X.E tm m s).2.l, (exprT X.E tm m s).2.deep - 1, (exprT X.E tm m s).2.wrong⟩ 4 [41])) (g' := fun _ s => ((exprT X.T tm' m' s).1, needT X.T ⟨(exprT X.T tm' m' s).2.l, (exprT X.T tm' m' s).2.deep - 1, (exprT X.T tm' m' s).2.wrong⟩ 4 [41]))
    fun _ => (exprG ht).bind (g := fun a s => (a, needT X.E ⟨s.l, s.deep - 1, s.wrong⟩ 4 [41])) (g' := fun a s => (a, needT X.T ⟨s.l, s.deep - 1, s.wrong⟩ 4 [41]))
      fun a => (deepG (· - 1)).bind (g := fun _ s => (a, needT X.E s 4 [41])) (g' := fun _ s => (a, needT X.T s 4 [41])) fun _ => (needG (by decide) [41]).map fun _ => a
theorem innerT_eq (E : Nat) (tm : RS → PEx × RS) (n : Nat) (s : RS) : innerT E tm n s = innerR E tm n (needT E (if s.deep = 6 then failT E s else s) 4 [40]) := rfl
theorem inner_over {tm : RS → PEx × RS} (hd : ∀ s, Over X s → Over X (tm s).2) (n : Nat) {s : RS} (h : Over X s) : Over X (innerR X.T tm n s).2 := by
  have h1 : Over X (⟨s.l, s.deep + 1, s.wrong⟩ : RS) := h
  have h2 : Over X (exprT X.T tm n ⟨s.l, s.deep + 1, s.wrong⟩).2 := sums_over hd _ _ _ (hd _ h1)
  exact (needG (X := X) (m := 0) (m' := 0) (k := 4) (by decide) [41]).over _ (show Over X (⟨_, _, _⟩ : RS) from h2)
theorem inner_bad {tm : RS → PEx × RS} (hd : ∀ s, Bad X s → Bad X (tm s).2) (n : Nat) {s : RS} (h : Bad X s) : Bad X (innerR X.E tm n s).2 := by
  have h1 : Bad X (⟨s.l, s.deep + 1, s.wrong⟩ : RS) := h
  have h2 : Bad X (exprT X.E tm n ⟨s.l, s.deep + 1, s.wrong⟩).2 := sums_bad hd _ _ _ (hd _ h1)
  exact (needG (X := X) (m := 0) (m' := 0) (k := 4) (by decide) [41]).bad _ (show Bad X (⟨_, _, _⟩ : RS) from h2)
theorem termT_eq (E n : Nat) (s : RS) : termT E (n + 1) s =
    if (valP E s).1.2 = true then (.mk 1 (valP E s).1.1 [] [] [], (valP E s).2)
    else if isT E s 4 [40] = true then innerT E (termT E n) n s
    else if (amongT E s 1 0 callsL).1 = 0 then fieldT E (amongT E s 1 0 callsL).2 2
    else callT E (amongT E s 1 0 callsL).2 (amongT E s 1 0 callsL).1 := by
  rw [termT, valP_eq]
theorem term_over : ∀ (n : Nat) (s : RS), Over X s → Over X (termT X.T n s).2
  | 0, s, h => h
  | n + 1, s, h => by
    have hv := (valG (X := X) (m := 0) (m' := 0)).over s h
    rw [termT_eq]
    split
    · exact hv
    · rw [Dn.isT h (by decide), if_neg (by simp), Dn.among h (by decide), if_pos rfl]
      exact (fieldG (X := X) (m := 0) (m' := 0) 2).over s h
theorem term_bad : ∀ (n : Nat) (s : RS), Bad X s → Bad X (termT X.E n s).2
  | 0, s, h => h
  | n + 1, s, h => by
    have hv := (valG (X := X) (m := 0) (m' := 0)).bad s h
    rw [termT_eq]
    split
    · exact hv
    · rw [Dn.isT h (by decide), if_neg (by simp), Dn.among h (by decide), if_pos rfl]
      exact (fieldG (X := X) (m := 0) (m' := 0) 2).bad s h
theorem valP_no {E : Nat} {s : RS} (h : ¬ (valP E s).1.2 = true) : (valP E s).2 = s := by
  unfold valP at h ⊢
  split at h
  · exact absurd rfl h
  · rename_i h1
    split at h
    · exact absurd rfl h
    · rename_i h2
      split at h
      · exact absurd rfl h
      · rename_i h3
        split at h
        · exact absurd rfl h
        · rename_i h4
          split at h
          · exact absurd rfl h
          · rename_i h5
            rw [if_neg h1, if_neg h2, if_neg h3, if_neg h4, if_neg h5]
/-- Does what comes begin a value? -/
def valF (E : Nat) (s : RS) : Bool := decide ((nextT E s).k = 2) || (isT E s 4 [45] || (decide ((nextT E s).k = 3) || (isT E s 1 bFalse || isT E s 1 bTrue)))
theorem valP_flag (E : Nat) (s : RS) : (valP E s).1.2 = valF E s := by
  unfold valP valF
  split
  · rename_i h
    rw [decide_eq_true h]
    rfl
  · rename_i h
    rw [decide_eq_false h, Bool.false_or]
    split
    · rename_i h
      rw [h]
      rfl
    · rename_i h
      rw [Bool.not_eq_true] at h
      rw [h, Bool.false_or]
      split
      · rename_i h
        rw [decide_eq_true h]
        rfl
      · rename_i h
        rw [decide_eq_false h, Bool.false_or]
        split
        · rename_i h
          rw [h]
          rfl
        · rename_i h
          rw [Bool.not_eq_true] at h
          rw [h, Bool.false_or]
          split
          · rename_i h
            rw [h]
          · rename_i h
            rw [Bool.not_eq_true] at h
            rw [h]
theorem Sync.flag {s s' : RS} (h : Sync X s s') : (valP X.E s).1.2 = (valP X.T s').1.2 := by
  rw [valP_flag, valP_flag]
  unfold valF
  rw [h.next X.E X.T, h.isT X.E X.T, h.isT X.E X.T, h.isT X.E X.T]
theorem termG : ∀ (m' m : Nat), GoodR X m m' (fun s => termT X.E m s) (fun s => termT X.T m' s) := fun m' => by
  induction m' with
  | zero => exact fun m => ⟨fun s s' _ h2 h => absurd (List.eq_nil_of_length_eq_zero (Nat.le_zero.1 h2)) h.1, fun s h => term_over _ _ h, fun s h => term_bad _ _ h, fun s => termT_le _ _, fun s => termT_le _ _⟩
  | succ m' ih =>
    intro m
    refine ⟨fun s s' h1 h2 h => ?_, fun s h => term_over _ _ h, fun s h => term_bad _ _ h, fun s => termT_le _ _, fun s => termT_le _ _⟩
    cases m with
    | zero =>
      have : s.l = [] := List.eq_nil_of_length_eq_zero (by omega)
      rw [h.2.1] at this
      exact absurd (List.append_eq_nil_iff.1 this).1 h.1
    | succ m =>
      (try dsimp only)
      rw [termT_eq, termT_eq]
      have hv := (valG (X := X) (m := m + 1) (m' := m' + 1)).sync s s' h1 h2 h
      (try dsimp only at hv)
      have hfl := h.flag
      by_cases hc : (valP X.E s).1.2 = true
      · rw [if_pos hc, if_pos (by rw [← hfl]; exact hc)]
        rcases hv with ⟨h3, h4⟩ | h3 | h3
        · exact .inl ⟨h3, by rw [h4]⟩
        · exact .inr (.inl h3)
        · exact .inr (.inr h3)
      · rw [if_neg hc]
        have hc' : ¬ (valP X.T s').1.2 = true := by rw [← hfl]; exact hc
        rw [if_neg hc', h.isT X.E X.T]
        clear hv hc hc' hfl
        by_cases hb : isT X.T s' 4 [40] = true
        · rw [if_pos hb, if_pos hb, innerT_eq, innerT_eq]
          by_cases hd : s.deep = 6
          · refine .inr (.inr (inner_bad (term_bad m) m ?_))
            rw [if_pos hd]
            exact (needG (X := X) (m := 0) (m' := 0) (k := 4) (by decide) [40]).bad _ h.fail
          · rw [if_neg hd, if_neg (by rw [← h.2.2.1]; exact hd)]
            have hn := (needG (X := X) (m := m + 1) (m' := m' + 1) (k := 4) (by decide) [40]).sync s s' h1 h2 h
            have e1 : needT X.E s 4 [40] = (takeT X.E s 4 [40]).2 := by unfold needT takeT; rw [h.isT X.E X.T, if_pos hb]; rfl
            have e2 : needT X.T s' 4 [40] = (takeT X.T s' 4 [40]).2 := by unfold needT takeT; rw [if_pos hb]; rfl
            have l1 := takeT_lt (E := X.E) (s := s) (k := 4) (b := [40]) (by rw [h.isT X.E X.T]; exact hb) (by decide)
            have l2 := takeT_lt (E := X.T) (s := s') (k := 4) (b := [40]) hb (by decide)
            rw [← e1] at l1
            rw [← e2] at l2
            rcases hn with ⟨h3, _⟩ | h3 | h3
            · exact (innerRG (ih m)).sync _ _ (by omega) (by omega) h3
            · exact .inr (.inl (inner_over (term_over m') m' h3))
            · exact .inr (.inr (inner_bad (term_bad m) m h3))
        · rw [if_neg hb, if_neg hb]
          have ha := (amongG (X := X) (m := m + 1) (m' := m' + 1) (k := 1) (by decide) callsL 0).sync s s' h1 h2 h
          rcases ha with ⟨h3, h4⟩ | h3 | h3
          · (try dsimp only at h3 h4)
            rw [h4]
            have l1 := amongT_le (E := X.E) (s := s) 1 callsL 0
            have l2 := amongT_le (E := X.T) (s := s') 1 callsL 0
            split
            · exact (fieldG (m := m + 1) (m' := m' + 1) 2).sync _ _ (by omega) (by omega) h3
            · exact (callG (m := m + 1) (m' := m' + 1) _).sync _ _ (by omega) (by omega) h3
          · refine .inr (.inl ?_)
            split
            · exact (fieldG (X := X) (m := 0) (m' := 0) 2).over _ h3
            · exact (callG (X := X) (m := 0) (m' := 0) _).over _ h3
          · refine .inr (.inr ?_)
            split
            · exact (fieldG (X := X) (m := 0) (m' := 0) 2).bad _ h3
            · exact (callG (X := X) (m := 0) (m' := 0) _).bad _ h3
theorem row_over {one : RS → α × RS} (_ : ∀ s, Over X s → Over X (one s).2) (b : List UInt8) : ∀ (n : Nat) (l : List α) (s : RS), Over X s → Over X (rowT X.T b one n l s).2
  | 0, l, s, h => h
  | n + 1, l, s, h => by
    rw [rowT, Dn.isT h (by decide), if_neg (by simp)]
    exact h
theorem row_bad {one : RS → α × RS} (_ : ∀ s, Bad X s → Bad X (one s).2) (b : List UInt8) : ∀ (n : Nat) (l : List α) (s : RS), Bad X s → Bad X (rowT X.E b one n l s).2
  | 0, l, s, h => h
  | n + 1, l, s, h => by
    rw [rowT, Dn.isT h (by decide), if_neg (by simp)]
    exact h
theorem rowG {one one' : RS → α × RS} {M M' : Nat} (ho : GoodR X M M' one one') (b : List UInt8) : ∀ (m' m : Nat) (l : List α), m ≤ M → m' ≤ M' → GoodR X m m' (fun s => rowT X.E b one m l s) (fun s => rowT X.T b one' m' l s) := fun m' => by
  induction m' with
  | zero => exact fun m x _ _ => ⟨fun s s' _ h2 h => absurd (List.eq_nil_of_length_eq_zero (Nat.le_zero.1 h2)) h.1, fun s h => row_over ho.over _ _ _ _ h, fun s h => row_bad ho.bad _ _ _ _ h, fun s => rowT_le ho.le _ _ _, fun s => rowT_le ho.le' _ _ _⟩
  | succ m' ih =>
    intro m l hM hM'
    refine ⟨fun s s' h1 h2 h => ?_, fun s h => row_over ho.over _ _ _ _ h, fun s h => row_bad ho.bad _ _ _ _ h, fun s => rowT_le ho.le _ _ _, fun s => rowT_le ho.le' _ _ _⟩
    cases m with
    | zero =>
      have : s.l = [] := List.eq_nil_of_length_eq_zero (by omega)
      rw [h.2.1] at this
      exact absurd (List.append_eq_nil_iff.1 this).1 h.1
    | succ m =>
      (try dsimp only)
      rw [rowT, rowT, h.isT X.E X.T]
      by_cases hb : isT X.T s' 1 b = true
      · rw [if_pos hb, if_pos hb]
        have l1 := takeT_lt (E := X.E) (s := s) (k := 1) (b := b) (by rw [h.isT X.E X.T]; exact hb) (by decide)
        have l2 := takeT_lt (E := X.T) (s := s') (k := 1) (b := b) hb (by decide)
        rcases (takeG (X := X) (m := m + 1) (m' := m' + 1) (k := 1) (by decide) b).sync s s' h1 h2 h with ⟨h3, _⟩ | h3 | h3
        · have hg := (ho.low (n := m) (n' := m') (by omega) (by omega)).bind (g := fun a s => rowT X.E b one m (l ++ [a]) s) (g' := fun a s => rowT X.T b one' m' (l ++ [a]) s) (fun a => ih m _ (by omega) (by omega))
          exact hg.sync _ _ (by omega) (by omega) h3
        · exact .inr (.inl (row_over ho.over _ _ _ _ (ho.over _ h3)))
        · exact .inr (.inr (row_bad ho.bad _ _ _ _ (ho.bad _ h3)))
      · rw [if_neg hb, if_neg hb]
        exact .inl ⟨h, rfl⟩
theorem row1G {one one' : RS → α × RS} (ho : GoodR X m m' one one') (b : List UInt8) : GoodR X m m' (fun s => row1T X.E b one m s) (fun s => row1T X.T b one' m' s) :=
  ho.bind (g := fun a s => rowT X.E b one m [a] s) (g' := fun a s => rowT X.T b one' m' [a] s) fun a => rowG ho b m' m [a] (Nat.le_refl _) (Nat.le_refl _)
theorem itemG : GoodR X m m' (fun s => itemT X.E m s) (fun s => itemT X.T m' s) :=
  (takeG (by decide) wNot).bind
    (g := fun z s => ((⟨z, (row1T X.E wOr (nameT X.E) m s).1, (nameT X.E (row1T X.E wOr (nameT X.E) m s).2).1, if (amongT X.E (nameT X.E (row1T X.E wOr (nameT X.E) m s).2).2 4 0 modesL).1 = 0 then 1 else ((amongT X.E (nameT X.E (row1T X.E wOr (nameT X.E) m s).2).2 4 0 modesL).1 : Int)⟩ : PIt), (amongT X.E (nameT X.E (row1T X.E wOr (nameT X.E) m s).2).2 4 0 modesL).2))
    (g' := fun z s => ((⟨z, (row1T X.T wOr (nameT X.T) m' s).1, (nameT X.T (row1T X.T wOr (nameT X.T) m' s).2).1, if (amongT X.T (nameT X.T (row1T X.T wOr (nameT X.T) m' s).2).2 4 0 modesL).1 = 0 then 1 else ((amongT X.T (nameT X.T (row1T X.T wOr (nameT X.T) m' s).2).2 4 0 modesL).1 : Int)⟩ : PIt), (amongT X.T (nameT X.T (row1T X.T wOr (nameT X.T) m' s).2).2 4 0 modesL).2))
    fun z => (row1G nameG wOr).bind
      (g := fun a s => ((⟨z, a, (nameT X.E s).1, if (amongT X.E (nameT X.E s).2 4 0 modesL).1 = 0 then 1 else ((amongT X.E (nameT X.E s).2 4 0 modesL).1 : Int)⟩ : PIt), (amongT X.E (nameT X.E s).2 4 0 modesL).2))
      (g' := fun a s => ((⟨z, a, (nameT X.T s).1, if (amongT X.T (nameT X.T s).2 4 0 modesL).1 = 0 then 1 else ((amongT X.T (nameT X.T s).2 4 0 modesL).1 : Int)⟩ : PIt), (amongT X.T (nameT X.T s).2 4 0 modesL).2))
      fun a => nameG.bind
        (g := fun b s => ((⟨z, a, b, if (amongT X.E s 4 0 modesL).1 = 0 then 1 else ((amongT X.E s 4 0 modesL).1 : Int)⟩ : PIt), (amongT X.E s 4 0 modesL).2))
        (g' := fun b s => ((⟨z, a, b, if (amongT X.T s 4 0 modesL).1 = 0 then 1 else ((amongT X.T s 4 0 modesL).1 : Int)⟩ : PIt), (amongT X.T s 4 0 modesL).2))
        fun b => (amongG (by decide) modesL 0).map fun (c : Nat) => (⟨z, a, b, if c = 0 then 1 else (c : Int)⟩ : PIt)
theorem predG : GoodR X m m' (fun s => predT X.E m s) (fun s => predT X.T m' s) :=
  (exprG (termG m' m)).bind
    (g := fun a s => ((⟨a, ((chooseT X.E s 4 cmpsL).1 : Int), (exprT X.E (termT X.E m) m (chooseT X.E s 4 cmpsL).2).1⟩ : PPr), (exprT X.E (termT X.E m) m (chooseT X.E s 4 cmpsL).2).2))
    (g' := fun a s => ((⟨a, ((chooseT X.T s 4 cmpsL).1 : Int), (exprT X.T (termT X.T m') m' (chooseT X.T s 4 cmpsL).2).1⟩ : PPr), (exprT X.T (termT X.T m') m' (chooseT X.T s 4 cmpsL).2).2))
    fun a => (chooseG (by decide) cmpsL).bind
      (g := fun c s => ((⟨a, ((c : Nat) : Int), (exprT X.E (termT X.E m) m s).1⟩ : PPr), (exprT X.E (termT X.E m) m s).2))
      (g' := fun c s => ((⟨a, ((c : Nat) : Int), (exprT X.T (termT X.T m') m' s).1⟩ : PPr), (exprT X.T (termT X.T m') m' s).2))
      fun c => (exprG (termG m' m)).map fun b => (⟨a, (c : Int), b⟩ : PPr)
end
end Go.Proofs.YtndmbljpfpnehaaGreatDoor
namespace Go.Proofs.YtndmbljpfpnehaaGreatDoor
open Go.Lib

section
variable {X : Sim} {m m' : Nat}
/-- What queryT does, part by part. -/
def qEnd (E : Nat) (I : List PIt) (P : List PPr) (w : Int) (b : List UInt8) (s : RS) : PQu × RS :=
  ((⟨I, P, w, b, (((if isT E s 1 wPick = true then chooseT E (takeT E s 1 wPick).2 1 picksL else (1, s)).1 : Nat) : Int)⟩ : PQu),
    if (if isT E s 1 wPick = true then chooseT E (takeT E s 1 wPick).2 1 picksL else (1, s)).2.l = [] then (if isT E s 1 wPick = true then chooseT E (takeT E s 1 wPick).2 1 picksL else (1, s)).2 else failT E (if isT E s 1 wPick = true then chooseT E (takeT E s 1 wPick).2 1 picksL else (1, s)).2)
def qBy (E : Nat) (I : List PIt) (P : List PPr) (w : Int) (s : RS) : PQu × RS :=
  qEnd E I P w (if isT E s 1 wBy = true then nameT E (takeT E s 1 wBy).2 else ([], s)).1 (if isT E s 1 wBy = true then nameT E (takeT E s 1 wBy).2 else ([], s)).2
def qWithin (E : Nat) (I : List PIt) (P : List PPr) (s : RS) : PQu × RS :=
  qBy E I P (numberT E (needT E s 1 wWithin)).1 (numberT E (needT E s 1 wWithin)).2
def qWhere (E n : Nat) (I : List PIt) (s : RS) : PQu × RS :=
  qWithin E I (if isT E s 1 wWhere = true then row1T E wAnd (predT E n) n (takeT E s 1 wWhere).2 else ([], s)).1 (if isT E s 1 wWhere = true then row1T E wAnd (predT E n) n (takeT E s 1 wWhere).2 else ([], s)).2
theorem queryT_eq (E n : Nat) (s : RS) : queryT E n s = qWhere E n (row1T E wThen (itemT E n) n (needT E s 1 wSeq)).1 (row1T E wThen (itemT E n) n (needT E s 1 wSeq)).2 := rfl

theorem endG (I : List PIt) (P : List PPr) (w : Int) (b : List UInt8) : GoodR X m m' (fun s => qEnd X.E I P w b s) (fun s => qEnd X.T I P w b s) :=
  (GoodR.iteP (c := fun s => isT X.E s 1 wPick = true) (c' := fun s => isT X.T s 1 wPick = true) (fun s s' h => by rw [h.isT X.E X.T])
    ((takeG (by decide) wPick).bind (g := fun _ s => chooseT X.E s 1 picksL) (g' := fun _ s => chooseT X.T s 1 picksL) fun _ => chooseG (by decide) picksL) (GoodR.pure 1)).bind
    (g := fun k s => ((⟨I, P, w, b, ((k : Nat) : Int)⟩ : PQu), if s.l = [] then s else failT X.E s)) (g' := fun k s => ((⟨I, P, w, b, ((k : Nat) : Int)⟩ : PQu), if s.l = [] then s else failT X.T s))
    fun k => ⟨fun s s' _ _ h => .inr (.inr (by
      have hs : s.l ≠ [] := by rw [h.2.1]; exact fun e => h.1 (List.append_eq_nil_iff.1 e).1
      (try dsimp only)
      rw [if_neg hs]
      exact h.fail)), fun s h => by
      (try dsimp only)
      rw [if_pos h.1]
      exact h, fun s h => by
      (try dsimp only)
      rw [if_pos h.1]
      exact h, fun s => by
      (try dsimp only)
      split
      · exact Nat.le_refl _
      · exact failT_le, fun s => by
      (try dsimp only)
      split
      · exact Nat.le_refl _
      · exact failT_le⟩
theorem byG (I : List PIt) (P : List PPr) (w : Int) : GoodR X m m' (fun s => qBy X.E I P w s) (fun s => qBy X.T I P w s) :=
  (GoodR.iteP (c := fun s => isT X.E s 1 wBy = true) (c' := fun s => isT X.T s 1 wBy = true) (fun s s' h => by rw [h.isT X.E X.T])
    ((takeG (by decide) wBy).bind (g := fun _ s => nameT X.E s) (g' := fun _ s => nameT X.T s) fun _ => nameG) (GoodR.pure [])).bind
    (g := fun b s => qEnd X.E I P w b s) (g' := fun b s => qEnd X.T I P w b s) fun b => endG I P w b
theorem withinG (I : List PIt) (P : List PPr) : GoodR X m m' (fun s => qWithin X.E I P s) (fun s => qWithin X.T I P s) :=
  (needG (by decide) wWithin).bind (g := fun _ s => qBy X.E I P (numberT X.E s).1 (numberT X.E s).2) (g' := fun _ s => qBy X.T I P (numberT X.T s).1 (numberT X.T s).2)
    fun _ => numberG.bind (g := fun w s => qBy X.E I P w s) (g' := fun w s => qBy X.T I P w s) fun w => byG I P w
theorem whereG (I : List PIt) : GoodR X m m' (fun s => qWhere X.E m I s) (fun s => qWhere X.T m' I s) :=
  (GoodR.iteP (c := fun s => isT X.E s 1 wWhere = true) (c' := fun s => isT X.T s 1 wWhere = true) (fun s s' h => by rw [h.isT X.E X.T])
    ((takeG (by decide) wWhere).bind (g := fun _ s => row1T X.E wAnd (predT X.E m) m s) (g' := fun _ s => row1T X.T wAnd (predT X.T m') m' s) fun _ => row1G predG wAnd) (GoodR.pure [])).bind
    (g := fun P s => qWithin X.E I P s) (g' := fun P s => qWithin X.T I P s) fun P => withinG I P
theorem queryG : GoodR X m m' (fun s => queryT X.E m s) (fun s => queryT X.T m' s) :=
  (needG (by decide) wSeq).bind (g := fun _ s => qWhere X.E m (row1T X.E wThen (itemT X.E m) m s).1 (row1T X.E wThen (itemT X.E m) m s).2) (g' := fun _ s => qWhere X.T m' (row1T X.T wThen (itemT X.T m') m' s).1 (row1T X.T wThen (itemT X.T m') m' s).2)
    fun _ => (row1G itemG wThen).bind (g := fun I s => qWhere X.E m I s) (g' := fun I s => qWhere X.T m' I s) fun I => whereG I
theorem done_if (E : Nat) (k : RS) : (if k.l = [] then k else failT E k).l = [] := by
  split
  · assumption
  · rfl
theorem queryT_done (E n : Nat) (s : RS) : (queryT E n s).2.l = [] := done_if E _
end

theorem lexX_cut_fuel : ∀ (f g : Nat) (l : List UInt8) (a n : Nat), l.length < f → l.length < g → lexX g l a n = lexX f l a n
  | 0, g, l, a, n, h, _ => by omega
  | f + 1, 0, l, a, n, _, h => by omega
  | f + 1, g + 1, l, a, n, hf, hg => by
    by_cases h1 : l.length ≤ manyL xblank l
    · rw [lexX_end h1, lexX_end h1]
    · by_cases h2 : (firstX (l.drop (manyL xblank l))).2 = 0
      · rw [lexX_none h1 h2, lexX_none h1 h2]
      · by_cases h3 : n = 128
        · rw [lexX_many h1 h2 h3, lexX_many h1 h2 h3]
        · have hz := firstX_size h2
          rw [lexX_more h1 h2 h3, lexX_more h1 h2 h3, lexX_cut_fuel f g _ _ _ (by rw [List.length_drop, List.length_drop] at *; omega) (by rw [List.length_drop, List.length_drop] at *; omega)]
/-- What is lexed of a text's beginning, up to a token. -/
theorem lexX_cut : ∀ (l1 : List XTok) (t : XTok) (l2 : List XTok) (f f' : Nat) (l : List UInt8) (a n p : Nat), lexX f l a n = (l1 ++ t :: l2, 0, p) → l.length < f' → a ≤ t.at_ ∧ t.at_ - a ≤ l.length ∧ lexX f' (l.take (t.at_ - a)) a n = (l1, 0, 0)
  | [], t, l2, f, f', l, a, n, p, h, hf => by
    obtain ⟨g, rfl, ⟨_, h1⟩ | ⟨h1, hn, k, z, r, p', h2, h3, h4, h5⟩⟩ := lexX_ok h
    · cases h1
    · obtain ⟨rfl, rfl⟩ := List.cons.inj (by simpa using h4)
      obtain ⟨g', rfl⟩ : ∃ g', f' = g' + 1 := ⟨f' - 1, by omega⟩
      refine ⟨Nat.le_add_right _ _, by dsimp only; omega, lexX_end ?_⟩
      (try dsimp only)
      rw [Nat.add_sub_cancel_left, List.length_take]
      have : manyL xblank (l.take (manyL xblank l)) = (l.take (manyL xblank l)).length := manyL_is xblank _ _ (Nat.le_refl _) (fun x hx => manyL_take xblank l x (by rw [List.take_length] at hx; exact hx)) (fun x hx => by simp at hx)
      rw [this, List.length_take]
      exact Nat.le_refl _
  | u :: l1, t, l2, f, f', l, a, n, p, h, hf => by
    obtain ⟨g, rfl, ⟨_, h1⟩ | ⟨h1, hn, k, z, r, p', h2, h3, h4, h5⟩⟩ := lexX_ok h
    · cases h1
    · obtain ⟨rfl, rfl⟩ := List.cons.inj (by simpa using h4)
      obtain ⟨g', rfl⟩ : ∃ g', f' = g' + 1 := ⟨f' - 1, by omega⟩
      have hle := firstX_le (l.drop (manyL xblank l))
      rw [h2, List.length_drop] at hle
      (try dsimp only at hle)
      have ih := lexX_cut l1 t l2 g g' _ _ _ _ h5 (by rw [List.length_drop, List.length_drop]; omega)
      rw [List.length_drop, List.length_drop] at ih
      obtain ⟨i1, i2, i3⟩ := ih
      have hmb := manyL_le xblank l
      refine ⟨by omega, by omega, ?_⟩
      obtain ⟨d, hd⟩ : ∃ d, t.at_ - a = d := ⟨_, rfl⟩
      rw [show t.at_ - (a + manyL xblank l + z) = d - (manyL xblank l + z) by omega] at i3
      rw [hd]
      obtain ⟨mb, hm⟩ : ∃ mb, manyL xblank l = mb := ⟨_, rfl⟩
      have hm2 : manyL xblank (l.take d) = mb := by
        rw [← hm]
        refine manyL_is xblank _ _ (by rw [List.length_take]; omega) (fun x hx => ?_) (fun x hx => ?_)
        · rw [List.take_take, Nat.min_eq_left (by omega)] at hx
          exact manyL_take xblank l x hx
        · rw [List.getElem?_take] at hx
          split at hx
          · exact manyL_next xblank l x hx
          · cases hx
      rw [hm] at h1 h2 hle i1 i2 i3 h4 ⊢
      have hdr : (l.take d).drop mb = (l.drop mb).take (d - mb) := by rw [List.drop_take]
      have hf2 : firstX ((l.take d).drop mb) = (k, z) := by
        refine firstX_same h2 h3 ?_ (fun x hx => ?_)
        · rw [hdr, List.take_take, Nat.min_eq_left (by omega)]
        · right
          rw [hdr, List.getElem?_take] at hx
          split at hx
          · exact hx
          · cases hx
      have hlen : (l.take d).length = d := by rw [List.length_take]; omega
      rw [lexX_more (by rw [hm2, hlen]; omega) (by rw [hm2, hf2]; exact h3) hn, hm2, hf2]
      (try dsimp only)
      have e1 : ((l.take d).drop mb).drop z = ((l.drop mb).drop z).take (d - (mb + z)) := by
        rw [hdr, List.drop_take]
        congr 1
        omega
      have e2 : ((l.take d).drop mb).take z = (l.drop mb).take z := by rw [hdr, List.take_take, Nat.min_eq_left (by omega)]
      rw [e1, e2, i3]
      rfl
theorem plX_after {l : List UInt8} : ∀ {a : Nat} {l1 : List XTok} {t : XTok} {l2 : List XTok}, PlX l a (l1 ++ t :: l2) → ∀ u ∈ l1, u.at_ < t.at_
  | _, [], _, _, _, u, hu => by cases hu
  | a, v :: l1, t, l2, h, u, hu => by
    obtain ⟨_, _, _, h4, _, _, h7⟩ := h
    have hge : ∀ {a : Nat} {l1 : List XTok}, PlX l a (l1 ++ t :: l2) → a ≤ t.at_ := fun {a l1} => by
      induction l1 generalizing a with
      | nil => exact fun h => h.1
      | cons w l1 ih =>
        intro h
        obtain ⟨g1, _, _, _, _, _, g7⟩ := h
        have := ih g7
        omega
    rcases List.mem_cons.1 hu with rfl | hu
    · have := hge h7
      omega
    · exact plX_after h7 u hu
/-- What is wrong first is a token that is there, or the end. -/
theorem wrong_at {E n : Nat} {ts : List XTok} (hn : ts.length ≤ n) (hw : (queryT E n ⟨ts, 0, -1⟩).2.wrong ≠ -1) : (queryT E n ⟨ts, 0, -1⟩).2.wrong = E ∨ ∃ t ∈ ts, (queryT E n ⟨ts, 0, -1⟩).2.wrong = t.at_ := by
  refine Classical.byContradiction fun hc => ?_
  have hE : (queryT E n ⟨ts, 0, -1⟩).2.wrong ≠ E := fun e => hc (.inl e)
  have ht : ∀ t ∈ ts, (t.at_ : Int) ≠ (queryT E n ⟨ts, 0, -1⟩).2.wrong := fun t h e => hc (.inr ⟨t, h, e.symm⟩)
  have hq := queryG (X := ⟨E, E, (queryT E n ⟨ts, 0, -1⟩).2.wrong, []⟩) (m := n) (m' := n)
  have hd := queryT_done E n ⟨ts, 0, -1⟩
  by_cases h0 : ts = []
  · exact (hq.over ⟨ts, 0, -1⟩ ⟨h0, .inl rfl⟩).2.elim hw hE
  · rcases hq.sync ⟨ts, 0, -1⟩ ⟨ts, 0, -1⟩ hn hn ⟨h0, (List.append_nil _).symm, rfl, rfl, rfl, ht⟩ with h | h | h
    · exact h.1.1 hd
    · exact h.2.elim hw hE
    · exact h.2.2 rfl
theorem wrong_ahead {E T n n' : Nat} {l1 : List XTok} {t : XTok} {l2 : List XTok} (hn : (l1 ++ t :: l2).length ≤ n) (hn' : l1.length ≤ n') (hl : ∀ u ∈ l1, u.at_ ≠ T) (hw : (queryT E n ⟨l1 ++ t :: l2, 0, -1⟩).2.wrong = T) :
    (queryT T n' ⟨l1, 0, -1⟩).2.wrong = -1 ∨ (queryT T n' ⟨l1, 0, -1⟩).2.wrong = T := by
  have hq := queryG (X := ⟨E, T, T, t :: l2⟩) (m := n) (m' := n')
  have hd := queryT_done T n' ⟨l1, 0, -1⟩
  by_cases h0 : l1 = []
  · exact (hq.over ⟨l1, 0, -1⟩ ⟨h0, .inl rfl⟩).2
  · rcases hq.sync ⟨l1 ++ t :: l2, 0, -1⟩ ⟨l1, 0, -1⟩ hn hn' ⟨h0, rfl, rfl, rfl, rfl, fun u hu => by have := hl u hu; show (u.at_ : Int) ≠ (T : Int); omega⟩ with h | h | h
    · exact absurd hd h.1.1
    · exact h.2
    · exact absurd hw h.2.2
/-- The lexer's errors are none of the reader's. -/
theorem lexX_err : ∀ (f : Nat) (l : List UInt8) (a n : Nat), (lexX f l a n).2.1 ≠ 81
  | 0, l, a, n => by rw [lexX]; decide
  | f + 1, l, a, n => by
    rw [lexX]
    split
    · simp
    · split
      · simp
      · split
        · simp
        · have ih := lexX_err f ((l.drop (manyL xblank l)).drop (firstX (l.drop (manyL xblank l))).2) (a + manyL xblank l + (firstX (l.drop (manyL xblank l))).2) (n + 1)
          unfold consX
          split
          · simp
          · exact ih
theorem readX_err (l : List UInt8) : (readX l).2.1 ≠ 81 := by
  unfold readX
  split
  · simp
  · exact lexX_err _ _ _ _
theorem lexX_at : ∀ (f : Nat) (l : List UInt8) (a n : Nat), l.length < f → (lexX f l a n).2.2 ≤ a + l.length
  | 0, l, a, n, h => by omega
  | f + 1, l, a, n, h => by
    have h1 := manyL_le xblank l
    have h2 := firstX_le (l.drop (manyL xblank l))
    rw [List.length_drop] at h2
    rw [lexX]
    split
    · simp
    · split
      · dsimp only; omega
      · split
        · dsimp only; omega
        · have ih := lexX_at f ((l.drop (manyL xblank l)).drop (firstX (l.drop (manyL xblank l))).2) (a + manyL xblank l + (firstX (l.drop (manyL xblank l))).2) (n + 1) (by rw [List.length_drop, List.length_drop]; omega)
          rw [List.length_drop, List.length_drop] at ih
          unfold consX
          split
          · simp
          · omega
theorem readX_at (l : List UInt8) : (readX l).2.2 ≤ l.length := by
  unfold readX
  split
  · simp
  · have := lexX_at (l.length + 1) l 0 0 (Nat.lt_succ_self _)
    omega
theorem readX_cut {l : List UInt8} {l1 : List XTok} {t : XTok} {l2 : List XTok} {p : Nat} (h : readX l = (l1 ++ t :: l2, 0, p)) : t.at_ ≤ l.length ∧ readX (l.take t.at_) = (l1, 0, 0) := by
  unfold readX at h
  split at h
  · injection h with _ h; injection h with h _; cases h
  · obtain ⟨_, h2, h3⟩ := lexX_cut l1 t l2 _ (l.length + 1) l 0 0 p h (Nat.lt_succ_self _)
    rw [Nat.sub_zero] at h2 h3
    refine ⟨h2, ?_⟩
    unfold readX
    rw [if_neg (by rw [List.length_take]; omega), ← h3]
    have hlen : (l.take t.at_).length = t.at_ := by rw [List.length_take]; omega
    exact lexX_cut_fuel _ _ _ _ _ (by rw [hlen]; omega) (Nat.lt_succ_self _)
theorem parseI_lex {l : List UInt8} {ts : List XTok} {er p : Nat} (hr : readX l = (ts, er, p)) (h0 : er ≠ 0) : parseI l = (noQ, (er : Int), (p : Int)) := by
  unfold parseI
  rw [hr, if_pos h0]
theorem parseI_wrong {l : List UInt8} {ts : List XTok} {p : Nat} {z : Int} (hr : readX l = (ts, 0, p)) (hz : (queryT l.length (ts.length + 1) ⟨ts, 0, -1⟩).2.wrong = z) (h0 : z ≠ -1) : parseI l = (noQ, 81, z) := by
  unfold parseI
  rw [hr]
  (try dsimp only)
  rw [if_neg (by simp), hz, if_pos h0]
theorem parseI_fine {l : List UInt8} {ts : List XTok} {p : Nat} (hr : readX l = (ts, 0, p)) (hz : (queryT l.length (ts.length + 1) ⟨ts, 0, -1⟩).2.wrong = -1) : (parseI l).2.1 ≠ 81 ∧ (parseI l).2.2 = 0 := by
  unfold parseI
  rw [hr]
  (try dsimp only)
  rw [if_neg (by simp), hz, if_neg (by simp)]
  split
  · exact ⟨by show (0 : Int) ≠ 81; decide, rfl⟩
  · exact ⟨by show (2 : Int) ≠ 81; decide, rfl⟩
/-- TreePlaces, in plain words. -/
def PlacesI (F : List UInt8 → PQu × Int × Int) (l : List UInt8) : Prop := ∃ at_ : Nat, (F l).2.2 = at_ ∧ at_ ≤ l.length ∧ ((F l).2.1 = 0 → at_ = 0) ∧ ((F l).2.1 = 81 → (F (l.take at_)).2.1 = 81 → (F (l.take at_)).2.2 = at_)
theorem parse_places (l : List UInt8) : PlacesI parseI l := by
  obtain ⟨F, hF⟩ : ∃ F : List UInt8 → PQu × Int × Int, parseI = F := ⟨_, rfl⟩
  obtain ⟨⟨ts, er, p⟩, hr⟩ : ∃ z, readX l = z := ⟨_, rfl⟩
  have he := readX_err l
  have hat := readX_at l
  rw [hr] at he hat
  (try dsimp only at he hat)
  by_cases h0 : er = 0
  · subst h0
    obtain ⟨z, hz⟩ : ∃ z, (queryT l.length (ts.length + 1) ⟨ts, 0, -1⟩).2.wrong = z := ⟨_, rfl⟩
    by_cases hw : z = -1
    · have hp := parseI_fine hr (hz.trans hw)
      rw [hF] at hp ⊢
      clear hF hz hr he
      exact ⟨0, hp.2, Nat.zero_le _, fun _ => rfl, fun h => absurd h hp.1⟩
    · have hpe := parseI_wrong hr hz hw
      have hwa := wrong_at (E := l.length) (n := ts.length + 1) (ts := ts) (Nat.le_succ _) (by rw [hz]; exact hw)
      rw [hz] at hwa
      rcases hwa with h1 | ⟨t, ht, h1⟩
      · rw [hF] at hpe ⊢
        clear hF hz hr he
        refine ⟨l.length, ?_, Nat.le_refl _, fun h => ?_, fun _ _ => ?_⟩
        · rw [hpe]
          exact h1
        · rw [hpe] at h
          exact absurd h (by show ¬ (81 : Int) = 0; decide)
        · rw [List.take_length, hpe]
          exact h1
      · obtain ⟨l1, l2, rfl⟩ := List.append_of_mem ht
        obtain ⟨h2, h3⟩ := readX_cut hr
        obtain ⟨_, _, _, hpl, _⟩ := readX_toks hr
        have h4 := wrong_ahead (E := l.length) (T := t.at_) (n := (l1 ++ t :: l2).length + 1) (n' := l1.length + 1) (l1 := l1) (t := t) (l2 := l2) (Nat.le_succ _) (Nat.le_succ _) (fun u hu => Nat.ne_of_lt (plX_after hpl u hu)) (hz.trans h1)
        have hlen : (l.take t.at_).length = t.at_ := by rw [List.length_take]; omega
        have h5 : (parseI (l.take t.at_)).2.1 = 81 → (parseI (l.take t.at_)).2.2 = t.at_ := by
          rcases h4 with h4 | h4
          · have h6 := parseI_fine (l := l.take t.at_) h3 (by rw [hlen]; exact h4)
            exact fun h => absurd h h6.1
          · have h6 := parseI_wrong (l := l.take t.at_) h3 (z := (t.at_ : Int)) (by rw [hlen]; exact h4) (by omega)
            rw [h6]
            exact fun _ => rfl
        rw [hF] at hpe h5 ⊢
        clear hF hz hr he h4 h3 hpl
        refine ⟨t.at_, ?_, h2, fun h => ?_, fun _ => h5⟩
        · rw [hpe]
          exact h1
        · rw [hpe] at h
          exact absurd h (by show ¬ (81 : Int) = 0; decide)
  · have hp := parseI_lex hr h0
    rw [hF] at hp ⊢
    clear hF hr
    refine ⟨p, by rw [hp], hat, fun h => ?_, fun h => ?_⟩
    · rw [hp] at h
      have h : (er : Int) = 0 := h
      omega
    · rw [hp] at h
      have h : (er : Int) = 81 := h
      omega
end Go.Proofs.YtndmbljpfpnehaaGreatDoor
namespace Go.Proofs.YtndmbljpfpnehaaGreatDoor
open Go.RowKit Go.Lib Go.Op

theorem ext_take (s : ByteArray) (n : Nat) : (s.extract 0 n).data.toList = s.data.toList.take n := by
  rw [ByteArray.data_extract, Array.toList_extract]
  simp

set_option maxHeartbeats 2000000 in
set_option maxRecDepth 100000 in
theorem tplaces_walk (w : World) (hv : TVars w) (hp : PVars w) (s : ByteArray) (hs : s.size ≤ maxLen) : Calls Tryz.prog 6 #[.string s] w fun e w' => e = .returned (.bool true) ∧ Below w.heap.size w w' := by
  have HH := Lib.hid (thead_calls hv hp)
  have HV := Lib.hid hv
  unfold maxLen at hs
  clear hv hp
  go_enter Tryz.func6, Tryz.ntmps6
  go_wp2_with fail
  with_reducible refine HH.out.mono ?_
  rintro e w1 ⟨rfl, hb1⟩
  have HB1 := Lib.hid hb1
  clear HH hb1
  by_cases h3 : 3000 < s.size
  · go_wp2
    go_ret
    exact ⟨rfl, HB1.out⟩
  have hll : s.data.toList.length = s.size := by simp
  have hpa := parse_calls (HV.out.below HB1.out) s.data.toList (by rw [hll]; omega)
  rw [strB_eq'] at hpa
  obtain ⟨n, hn1, hn2, hn3, hn4⟩ := parse_places s.data.toList
  rw [hll] at hn2
  obtain ⟨⟨q, er, p⟩, hr⟩ : ∃ z, parseI s.data.toList = z := ⟨_, rfl⟩
  rw [hr] at hpa hn1 hn3 hn4
  dsimp only at hn1 hn3 hn4
  subst hn1
  have HP := Lib.hid hpa
  have H4 := Lib.hid hn4
  have H3 := Lib.hid hn3
  clear hpa hn3 hn4 hr hll
  go_wp2_with fail
  with_reducible refine HP.out.mono ?_
  rintro e w2 ⟨a, m, c, b, r, d, rfl, _, hb2⟩
  have HB2 := Lib.hid (HB1.out.trans (hb2.mono HB1.out.size))
  have hba := (Below.refl w2.heap.size w2).alloc (Nat.le_refl _) (.cells #[.slice a m c, .slice b r d, .int .i64 q.within, .string (strB q.by_), .int .i64 q.pick] 26)
  have HB2a := Lib.hid (HB2.out.trans (hba.mono HB2.out.size))
  clear HP hb2 hba
  have t0 : decide ((n : Int) < 0) = false := decide_eq_false (by omega)
  have t1 : decide (s.size < n) = false := decide_eq_false (by omega)
  by_cases he : er = 81
  · subst he
    have hsz : (s.extract 0 n).size = n := by
      rw [ByteArray.size_extract]
      omega
    have hpa := parse_calls (HV.out.below HB2a.out) (s.extract 0 n).data.toList (by simp only [Array.length_toList]; show (s.extract 0 n).size ≤ _; omega)
    rw [strB_eq', ext_take] at hpa
    obtain ⟨⟨q2, er2, p2⟩, hr⟩ : ∃ z, parseI (s.data.toList.take n) = z := ⟨_, rfl⟩
    have h4 := H4.out rfl
    rw [hr] at hpa h4
    dsimp only at h4
    have HP := Lib.hid hpa
    have H5 := Lib.hid h4
    clear hpa h4 hr
    go_wp2_with fail
    with_reducible refine HP.out.mono ?_
    rintro e w3 ⟨a3, m3, c3, b3, r3, d3, rfl, _, hb3⟩
    have HB3 := Lib.hid (HB2a.out.trans (hb3.mono HB2a.out.size))
    have hba := (Below.refl w3.heap.size w3).alloc (Nat.le_refl _) (.cells #[.slice a3 m3 c3, .slice b3 r3 d3, .int .i64 q2.within, .string (strB q2.by_), .int .i64 q2.pick] 26)
    have HB3a := Lib.hid (HB3.out.trans (hba.mono HB3.out.size))
    clear HP hb3 hba
    by_cases he2 : er2 = 81
    · have h5 := H5.out he2
      subst h5 he2
      have t2 : ((n : Int) == (n : Int)) = true := beq_self_eq_true _
      go_wp2
      go_ret
      exact ⟨rfl, HB3a.out⟩
    · have t2 : (er2 != 81) = true := by rw [bne_iff_ne]; exact he2
      go_wp2
      go_ret
      exact ⟨rfl, HB3a.out⟩
  · have t2 : (er != 81) = true := by rw [bne_iff_ne]; exact he
    by_cases he0 : er = 0
    · have h0 := H3.out he0
      subst he0 h0
      go_wp2
      go_ret
      exact ⟨rfl, HB2a.out⟩
    · have t3 : (er != 0) = true := by rw [bne_iff_ne]; exact he0
      go_wp2
      go_ret
      exact ⟨rfl, HB2a.out⟩
end Go.Proofs.YtndmbljpfpnehaaGreatDoor
namespace Go.Proofs.YtndmbljpfpnehaaGreatDoor
open Go.ChangeShapes Go.WideShapes Go.ChangeAt Go.RowKit Go.Lib Go.Deep Go.Joins
open Go.ChangeMaps (open_string shut_string)

namespace treePlaces
set_option maxRecDepth 100000 in
theorem lifted (os : Os) (started : os.Started) (H : Type) (enc : TypeId × Value → H) :
    ReturnsInHanded {} Tryz.checked os 6 .any (fun w args => (Rows.treePlacesSpec.pre enc Tryz.prog Tryz.f6 [] false w args ∧ laidMetH Tryz.prog laidX w) ∧ sizedMet enc Tryz.prog Tryz.f6 (OpenSpec.ofChange Rows.treePlacesSpec) false w args)
      (Rows.treePlacesSpec.post enc Tryz.prog Tryz.f6 false true false false) := by
  refine returnsInHanded_of_change_and (C := Tryz.checked) (X := fun w _ => laidMetH Tryz.prog laidX w) (fun _ _ _ hh h => h.of_heap hh) xown_ started (by kernel_rfl) Tryz.func6
    (ChangeSpec.witness_shaped (enc := enc) (C := Tryz.checked) (os := os) (X := fun w _ => laidMetH Tryz.prog laidX w) false (World.doorLaid Tryz.prog 74 os) #[.string .empty] 8 rfl (World.shaped_of_RefB (by kernel_rfl) (by kernel_rfl)) (by kernel_rfl) (by kernel_rfl) (by kernel_rfl) (xdoor_met os _)) ?_
  intro W base args ds gs before hval0 hW _ hsz hL _
  have hT := vars_of_laid hL
  have hval : ∀ (j : Nat) t v, Tryz.f6.params[j]? = some t → args[j]? = some v → Value.okWide Tryz.prog W .any base t v := hval0
  have hW' := hW
  obtain ⟨p, q, hA0, hV, rfl, _, _⟩ := hW
  have hA : DataW.TrodAll enc Tryz.prog W 0 (fun _ => true) true Tryz.f6.params.toList args.toList ds p := hA0
  rw [Tryz.params6] at hA hval
  obtain ⟨v0, vs0, d0, ds0, p0, q0, hargs, rfl, rfl, h0, r0⟩ := trodAll_cons hA
  obtain ⟨rfl, rfl, rfl⟩ := trodAll_nil r0
  obtain rfl : args = #[v0] := by cases args; simp_all
  obtain ⟨rfl, rfl⟩ := trodVars_none hV
  have lt0 : ∀ x ∈ p0, x.block < W.heap.size := by obtain ⟨m, hm⟩ := h0; exact DataW.trod_lt m _ _ _ hm
  have k_0 := h0
  obtain ⟨s0, rfl, hd0, _, hs0⟩ := open_string Tryz.underlying9 (hval 0 9 v0 rfl rfl) h0
  have hr0 : s0.size ≤ 140737488351232 := by
    have h8 := sized_string hsz (j := 0) (t := 9) (bytes := s0.data.toList) (by kernel_rfl) (by rw [hd0]; rfl)
    simpa [reachBytes] using h8
  clear hA0 hval0
  refine (tplaces_walk W hT.1 hT.2 s0 hs0).mono fun e W' ⟨he, bel⟩ => ?_
  subst he
  exact ⟨_, rfl, _, _, _, [], _, [], hW', trodAll_mk1 (shut_bool Tryz.underlying4 _), (trodAll_cons_mk (Below.trod xlaidOut (by kernel_rfl) (of_decide_eq_true (by kernel_rfl)) k_0 bel lt0) trodAll_mk0), rfl, bel.frame _, fun h => by cases h⟩

theorem row_holds : Rows.TreePlacesSaid :=
  OpenClaim.holds_of_wide 6 Tryz.f6 rfl rfl rfl rfl rfl rfl rfl ⟨rfl, rfl, rfl, rfl, rfl⟩ rfl rfl rfl rfl rfl (by kernel_rfl) Tryz.func6 (by kernel_rfl)
    (of_decide_eq_true (by kernel_rfl)) (by unfold Func.isWrapper; first | (rw [if_pos (by decide +kernel)]; kernel_rfl) | (rw [if_neg (by decide +kernel)]; exact ⟨rfl, rfl⟩))
    (fun os started H enc _ => lifted os started H enc)

theorem holds : Rows.TreePlacesCardSaid :=
  Claim7.holds_tied_plain_at .later [] [.data, .data, .data, .sentinel, .sentinel, .data] true _ true row_holds (fun _ h => by cases h) (by kernel_rfl) (fun _ h => by cases h) treePlaces_row_tie rfl ⟨rfl, rfl⟩ (by kernel_rfl) rfl
    (fun f fn hf hfn => by
      obtain rfl : f = 6 := Option.some.inj ((show Tryz.prog.funcNamed "augury/augurylaw08.TreePlaces" = some 6 by kernel_rfl).symm.trans hf) |>.symm
      obtain rfl : fn = Tryz.f6 := (Option.some.inj (Tryz.func6.symm.trans hfn)).symm
      exact ⟨by kernel_rfl, fun j t ht => by
        rw [Tryz.params6] at ht
        have hm : t ∈ [9] := by simpa using Array.mem_of_getElem? ht
        have hall : ([9].all fun u => !Tryz.prog.wantsStandIn u) = true := by kernel_rfl
        exact (show Tryz.prog.wantsStandIn t = false by simpa using List.all_eq_true.1 hall t hm)⟩)
    (by kernel_rfl)
end treePlaces
end Go.Proofs.YtndmbljpfpnehaaGreatDoor
