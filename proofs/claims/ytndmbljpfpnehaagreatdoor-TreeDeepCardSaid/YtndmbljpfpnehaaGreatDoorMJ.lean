/- Queries: depths; the rows below an expression in memory, and their depths in plain words. | Queries: how much an expression is. -/
import Derived.Test.YtndmbljpfpnehaaGreatDoorMI
namespace Go.Proofs.YtndmbljpfpnehaaGreatDoor
open Go.RowKit Go.Lib Go.Op

theorem PEx.ind {p : PEx → Prop} (h : ∀ k v x f ks, (∀ y ∈ ks, p y) → p (.mk k v x f ks)) : ∀ x, p x
  | .mk k v x f ks => h k v x f ks (fun y _ => PEx.ind h y)
/-- How deep an expression is. -/
def deepI : PEx → Int
  | .mk k _ _ _ ks => if k = 7 ∨ k = 8 then 1 + (ks.map fun y => deepI y).foldr max 0 else 1
def deepIs (l : List PEx) : Int := (l.map deepI).foldr max 0
theorem deepI_mk (k : Int) (v : PVal) (a b : List UInt8) (ks : List PEx) : deepI (.mk k v a b ks) = if k = 7 ∨ k = 8 then 1 + deepIs ks else 1 := by rw [deepI]; rfl
theorem deepIs_nil : deepIs [] = 0 := rfl
theorem deepIs_cons (x : PEx) (r : List PEx) : deepIs (x :: r) = max (deepI x) (deepIs r) := rfl
/-- How many expressions it is made of. -/
def sizeI : PEx → Nat
  | .mk _ _ _ _ ks => 1 + (ks.map fun y => sizeI y).sum
def sizeIs (l : List PEx) : Nat := (l.map sizeI).sum
theorem sizeI_mk (k : Int) (v : PVal) (a b : List UInt8) (ks : List PEx) : sizeI (.mk k v a b ks) = 1 + sizeIs ks := by rw [sizeI]; rfl
theorem sizeIs_nil : sizeIs [] = 0 := rfl
theorem sizeIs_cons (x : PEx) (r : List PEx) : sizeIs (x :: r) = sizeI x + sizeIs r := rfl
theorem sizeI_pos (x : PEx) : 0 < sizeI x := by
  obtain ⟨k, v, a, b, ks⟩ := x
  rw [sizeI_mk]
  omega
theorem sizeIs_len : ∀ l : List PEx, l.length ≤ sizeIs l
  | [] => Nat.zero_le _
  | x :: r => by
    have := sizeIs_len r
    have := sizeI_pos x
    rw [sizeIs_cons, List.length_cons]
    omega
theorem sizeIs_mem {x : PEx} : ∀ {l : List PEx}, x ∈ l → sizeI x ≤ sizeIs l
  | [], h => by simp at h
  | y :: r, h => by
    rw [sizeIs_cons]
    rcases List.mem_cons.1 h with rfl | h
    · omega
    · have := sizeIs_mem h
      omega

theorem deepIs_le {l : List PEx} (h : ∀ y ∈ l, deepI y ≤ sizeI y) : deepIs l ≤ sizeIs l := by
  induction l with
  | nil => rw [deepIs_nil, sizeIs_nil]; decide
  | cons x r ih =>
    have h1 := h x List.mem_cons_self
    have h2 := ih (fun y hy => h y (List.mem_cons_of_mem _ hy))
    rw [deepIs_cons, sizeIs_cons]
    omega
theorem deepI_size : ∀ x : PEx, deepI x ≤ sizeI x := PEx.ind fun k v x f ks ih => by
  have h := deepIs_le ih
  rw [deepI_mk, sizeI_mk]
  split <;> omega
theorem deepIs_size (l : List PEx) : deepIs l ≤ sizeIs l := deepIs_le fun y _ => deepI_size y

/-- The key of a row's Kid, as memory says it. -/
def kidK (w : World) (r : Option Addr × Nat) (j : Nat) : Option Addr × Nat :=
  match r.1 with
  | none => (none, 0)
  | some a => match w.cell? ⟨a.block, a.off + j * 7, none⟩, w.cell? ⟨a.block, a.off + j * 7 + 6, none⟩ with
    | some (.int _ k), some (.slice b n _) => keyX k b n
    | _, _ => (none, 0)
def kidsF (w : World) (r : Option Addr × Nat) : List (Option Addr × Nat) := (List.range r.2).map (kidK w r)
def depN (w : World) : Nat → Option Addr × Nat → Int
  | 0, _ => 1
  | m + 1, r => if r = (none, 0) then 1 else 1 + mostF (depN w m) (kidsF w r)
theorem kidsF_len (w : World) (r : Option Addr × Nat) : (kidsF w r).length = r.2 := by
  unfold kidsF
  rw [List.length_map, List.length_range]
theorem kidsF_nil (w : World) : kidsF w (none, 0) = [] := rfl
theorem kidsF_at {w : World} {r : Option Addr × Nat} {j : Nat} (h : j < r.2) : (kidsF w r)[j]? = some (kidK w r j) := by
  unfold kidsF
  rw [List.getElem?_map, List.getElem?_range h]
  rfl
theorem depN_nil (w : World) (m : Nat) : depN w m (none, 0) = 1 := by
  cases m with
  | zero => rfl
  | succ m => rw [depN, if_pos rfl]
/-- Rows that are closed under Kids. -/
structure KSet (w : World) (N d : Nat) (L : List (Option Addr × Nat)) : Prop where
  kid : ∀ s ∈ L, ∀ c ∈ kidsF w s, c ∈ L
  row : ∀ s ∈ L, s ≠ (none, 0) → s.2 ≤ N ∧ 0 < s.2 ∧ ∃ l : List PEx, s.2 = l.length ∧ KidsAt w s.1 l (kidsF w s) ∧ KBlk w s
  st : ∀ s ∈ L, ∃ v : Int, v ≤ (N : Int) + 1 ∧ ∀ m, d ≤ m → depN w m s = v
theorem KSet.nil (w : World) (N d : Nat) : KSet w N d [(none, 0)] := ⟨fun s hs c hc => by
  rw [List.mem_singleton.1 hs, kidsF_nil] at hc
  simp at hc, fun s hs hn => absurd (List.mem_singleton.1 hs) hn, fun s hs => ⟨1, by omega, fun m _ => by rw [List.mem_singleton.1 hs, depN_nil]⟩⟩
theorem KSet.app {w : World} {N d : Nat} {L M : List (Option Addr × Nat)} (h : KSet w N d L) (g : KSet w N d M) : KSet w N d (L ++ M) := ⟨fun s hs c hc => by
  rcases List.mem_append.1 hs with hs | hs
  · exact List.mem_append_left _ (h.kid s hs c hc)
  · exact List.mem_append_right _ (g.kid s hs c hc), fun s hs => by
  rcases List.mem_append.1 hs with hs | hs
  · exact h.row s hs
  · exact g.row s hs, fun s hs => by
  rcases List.mem_append.1 hs with hs | hs
  · exact h.st s hs
  · exact g.st s hs⟩
theorem KSet.empty (w : World) (N d : Nat) : KSet w N d [] := ⟨fun s hs => by simp at hs, fun s hs => by simp at hs, fun s hs => by simp at hs⟩
theorem KSet.le {w : World} {N N' d d' : Nat} {L : List (Option Addr × Nat)} (h : KSet w N d L) (hn : N ≤ N') (hd : d ≤ d') : KSet w N' d' L := ⟨h.kid, fun s hs h0 => by
  obtain ⟨h1, h2⟩ := h.row s hs h0
  exact ⟨Nat.le_trans h1 hn, h2⟩, fun s hs => by
  obtain ⟨v, hb, hv⟩ := h.st s hs
  exact ⟨v, by omega, fun m hm => hv m (Nat.le_trans hd hm)⟩⟩

theorem ExK.addr {K : Nat → Prop} {w : World} {d : Nat} {a : Option Addr} {n c : Nat} {ks : List PEx} (h : ExK K w d (.slice a n c) ks) : n = ks.length ∧ (ks.length ≠ 0 → ∃ g o, a = some ⟨g, o, none⟩ ∧ (K 0 → UBlk w g)) := by
  cases d with
  | zero =>
    obtain ⟨⟨a', c', e⟩, rfl⟩ := h
    injection e with e1 e2 e3
    exact ⟨e2, fun h => absurd rfl h⟩
  | succ d =>
    obtain ⟨a', c', e, h⟩ := h
    injection e with e1 e2 e3
    subst e1
    refine ⟨e2, fun hn => ?_⟩
    obtain ⟨x, hx⟩ : ∃ x, ks[0]? = some x := ⟨_, List.getElem?_eq_getElem (by omega)⟩
    obtain ⟨g, o, kv', ea, hg, _, _⟩ := h 0 x hx
    exact ⟨g, o, ea, hg.2⟩
theorem keyX_of {w : World} {k : Int} {a : Option Addr} {n : Nat} (h : n ≠ 0 → ∃ g o, a = some ⟨g, o, none⟩ ∧ UBlk w g) : KBlk w (keyX k a n) := by
  unfold keyX
  split
  · split
    · exact KBlk.nil w
    · rename_i hn
      obtain ⟨g, o, rfl, hu⟩ := h hn
      intro x hx
      obtain rfl := Option.some.inj hx
      exact hu
  · exact KBlk.nil w

/-- The rows of some Kids' own, together. -/
theorem kset_all {w : World} {N d : Nat} {ks : List PEx} {f : Nat → Option Addr × Nat} : ∀ (l : List PEx) (i : Nat), (∀ j x, l[j]? = some x → ∃ L, f (i + j) ∈ L ∧ L.length ≤ sizeI x ∧ KSet w N d L) →
    ∃ L, (∀ j, j < l.length → f (i + j) ∈ L) ∧ L.length ≤ sizeIs l ∧ KSet w N d L
  | [], i, _ => ⟨[], fun j hj => by simp at hj, Nat.le_refl _, KSet.empty w N d⟩
  | x :: r, i, h => by
    obtain ⟨L, h1, h2, h3⟩ := h 0 x rfl
    obtain ⟨M, h4, h5, h6⟩ := kset_all (ks := ks) r (i + 1) (fun j y hj => by
      have := h (j + 1) y (by simpa using hj)
      rwa [show i + (j + 1) = i + 1 + j by omega] at this)
    refine ⟨L ++ M, fun j hj => ?_, by rw [List.length_append, sizeIs_cons]; omega, h3.app h6⟩
    cases j with
    | zero => exact List.mem_append_left _ h1
    | succ j =>
      have := h4 j (by simpa using hj)
      rw [show i + 1 + j = i + (j + 1) by omega] at this
      exact List.mem_append_right _ this
theorem mostF_eq {f : Option Addr × Nat → Int} : ∀ {ks : List (Option Addr × Nat)} {l : List PEx}, ks.length = l.length → (∀ (j : Nat) (x : PEx) (c : Option Addr × Nat), l[j]? = some x → ks[j]? = some c → f c = deepI x) → mostF f ks = deepIs l := fun {ks l} => by
  have key : ∀ (ks : List (Option Addr × Nat)) (l : List PEx) (m : Int), 0 ≤ m → ks.length = l.length → (∀ (j : Nat) (x : PEx) (c : Option Addr × Nat), l[j]? = some x → ks[j]? = some c → f c = deepI x) → ks.foldl (fun m k => max m (f k)) m = max m (deepIs l) := fun ks => by
    induction ks with
    | nil =>
      intro l m hm hl _
      cases l with
      | nil => rw [deepIs_nil]; show m = max m 0; omega
      | cons x r => simp at hl
    | cons k ks ih =>
      intro l m hm hl h
      cases l with
      | nil => simp at hl
      | cons x r =>
        have h0 := h 0 x k rfl rfl
        rw [List.foldl_cons, ih r _ (by omega) (by simpa using hl) (fun j y c h1 h2 => h (j + 1) y c (by simpa using h1) (by simpa using h2)), deepIs_cons, h0]
        omega
  intro hl h
  have h2 := key ks l 0 (Int.le_refl _) hl h
  have h3 : 0 ≤ deepIs l := by
    cases l with
    | nil => rw [deepIs_nil]; decide
    | cons x r =>
      have : ∀ l : List PEx, 0 ≤ deepIs l := fun l => by
        induction l with
        | nil => rw [deepIs_nil]; decide
        | cons x r ih => rw [deepIs_cons]; omega
      exact this _
  rw [mostF, h2]
  omega

theorem kset_of {K : Nat → Prop} {w : World} (hK : K 0) : ∀ (d : Nat) (x : PEx) (a : Option Addr) (c : Nat), ExK K w d (.slice a x.ks.length c) x.ks →
    ∃ L, keyX x.k a x.ks.length ∈ L ∧ L.length ≤ sizeI x ∧ KSet w (sizeI x) d L ∧ ∀ m, d ≤ m → depN w m (keyX x.k a x.ks.length) = deepI x
  | d, .mk k v b f ks, a, c, h => by
    have h' : ExK K w d (.slice a ks.length c) ks := h
    show ∃ L, keyX k a ks.length ∈ L ∧ L.length ≤ sizeI (.mk k v b f ks) ∧ KSet w (sizeI (.mk k v b f ks)) d L ∧ ∀ m, d ≤ m → depN w m (keyX k a ks.length) = deepI (.mk k v b f ks)
    have hsz : sizeI (.mk k v b f ks) = 1 + sizeIs ks := sizeI_mk _ _ _ _ _
    have hdp : deepI (.mk k v b f ks) = if k = 7 ∨ k = 8 then 1 + deepIs ks else 1 := deepI_mk _ _ _ _ _
    rw [hsz, hdp]
    by_cases hk : k = 7 ∨ k = 8
    · rw [if_pos hk]
      by_cases hn : ks.length = 0
      · have hks : ks = [] := List.eq_nil_of_length_eq_zero hn
        rw [show keyX k a ks.length = (none, 0) by unfold keyX; rw [if_pos hk, if_pos hn]]
        exact ⟨[(none, 0)], List.mem_singleton.2 rfl, by simp, KSet.nil _ _ _, fun m _ => by rw [depN_nil, hks, deepIs_nil]; rfl⟩
      · cases d with
        | zero =>
          obtain ⟨_, h0⟩ := h'
          rw [h0] at hn
          exact absurd rfl hn
        | succ d =>
          obtain ⟨_, ha⟩ := h'.addr
          obtain ⟨g, o, rfl, hu⟩ := ha hn
          have hu := hu hK
          rw [show keyX k (some ⟨g, o, none⟩) ks.length = (some ⟨g, o, none⟩, ks.length) by unfold keyX; rw [if_pos hk, if_neg hn]]
          obtain ⟨a', c', e, h2⟩ := h'
          injection e with e1 e2 e3
          subst e1
          have hne : (some (⟨g, o, none⟩ : Addr), ks.length) ≠ (none, 0) := fun e => by simp at e
          have hkid : ∀ j x, ks[j]? = some x → ∃ a2 c2, (w.cell? ⟨g, o + j * 7, none⟩ = some (.int .i64 x.k) ∧ w.cell? ⟨g, o + j * 7 + 1, none⟩ = some (.int .i64 x.v.k) ∧ w.cell? ⟨g, o + j * 7 + 2, none⟩ = some (.int .i64 x.v.n) ∧ w.cell? ⟨g, o + j * 7 + 3, none⟩ = some (.string (strB x.v.s)) ∧ w.cell? ⟨g, o + j * 7 + 4, none⟩ = some (.string (strB x.x)) ∧ w.cell? ⟨g, o + j * 7 + 5, none⟩ = some (.string (strB x.f)) ∧ w.cell? ⟨g, o + j * 7 + 6, none⟩ = some (.slice a2 x.ks.length c2)) ∧ ExK K w d (.slice a2 x.ks.length c2) x.ks ∧ kidK w (some ⟨g, o, none⟩, ks.length) j = keyX x.k a2 x.ks.length := fun j x hx => by
            obtain ⟨g', o', kv', ea, _, hc, hk'⟩ := h2 j x hx
            have ea := Option.some.inj ea
            injection ea with e4 e5
            subst e4 e5
            obtain ⟨a2, c2, rfl⟩ := hk'.slice
            refine ⟨a2, c2, hc, hk', ?_⟩
            unfold kidK
            dsimp only
            rw [hc.1, hc.2.2.2.2.2.2]
          obtain ⟨L, h3, h4, h5⟩ := kset_all (w := w) (N := sizeIs ks) (d := d) (ks := ks) (f := kidK w (some ⟨g, o, none⟩, ks.length)) ks 0 (fun j x hj => by
            obtain ⟨a2, c2, _, h6, h7⟩ := hkid j x hj
            obtain ⟨L, h8, h9, h10, _⟩ := kset_of hK d x a2 c2 h6
            rw [Nat.zero_add, h7]
            exact ⟨L, h8, h9, h10.le (sizeIs_mem (List.mem_of_getElem? hj)) (Nat.le_refl _)⟩)
          have hdep : ∀ m, d ≤ m → mostF (depN w m) (kidsF w (some ⟨g, o, none⟩, ks.length)) = deepIs ks := fun m hm => mostF_eq (by rw [kidsF_len]) (fun j x c hx hc => by
            obtain ⟨a2, c2, _, h6, h7⟩ := hkid j x hx
            rw [kidsF_at (List.getElem?_eq_some_iff.1 hx).1, h7] at hc
            rw [← Option.some.inj hc]
            obtain ⟨_, _, _, _, h8⟩ := kset_of hK d x a2 c2 h6
            exact h8 m hm)
          have hd : ∀ m, d + 1 ≤ m → depN w m (some ⟨g, o, none⟩, ks.length) = 1 + deepIs ks := fun m hm => by
            obtain ⟨m, rfl⟩ : ∃ m', m = m' + 1 := ⟨m - 1, by omega⟩
            rw [depN, if_neg hne, hdep m (by omega)]
          refine ⟨(some ⟨g, o, none⟩, ks.length) :: L, List.mem_cons_self, by rw [List.length_cons]; omega, ⟨fun s hs c hc => ?_, fun s hs h0 => ?_, fun s hs => ?_⟩, hd⟩
          · rcases List.mem_cons.1 hs with rfl | hs
            · obtain ⟨j, hj⟩ := List.getElem?_of_mem hc
              have hjl : j < ks.length := by
                have := (List.getElem?_eq_some_iff.1 hj).1
                rwa [kidsF_len] at this
              rw [kidsF_at hjl] at hj
              rw [← Option.some.inj hj]
              have := h3 j hjl
              rw [Nat.zero_add] at this
              exact List.mem_cons_of_mem _ this
            · exact List.mem_cons_of_mem _ (h5.kid s hs c hc)
          · rcases List.mem_cons.1 hs with rfl | hs
            · refine ⟨?_, Nat.pos_of_ne_zero hn, ks, rfl, ⟨kidsF_len _ _, fun j x hx => ?_⟩, fun y hy => ?_⟩
              · have := sizeIs_len ks
                show ks.length ≤ _
                omega
              · obtain ⟨a2, c2, hc, h6, h7⟩ := hkid j x hx
                obtain ⟨_, h8⟩ := h6.addr
                refine ⟨g, o, a2, c2, rfl, hc, fun hn => ?_, keyX_of fun hn => ?_, ?_⟩
                · obtain ⟨g', o', e, _⟩ := h8 hn
                  exact ⟨g', o', e⟩
                · obtain ⟨g', o', e, hu'⟩ := h8 hn
                  exact ⟨g', o', e, hu' hK⟩
                · rw [kidsF_at (List.getElem?_eq_some_iff.1 hx).1, h7]
              · obtain rfl := Option.some.inj hy
                exact hu
            · have := (h5.le (Nat.le_succ _) (Nat.le_refl _)).row s hs h0
              rw [Nat.add_comm 1]
              exact this
          · rcases List.mem_cons.1 hs with rfl | hs
            · exact ⟨_, by have := deepIs_size ks; omega, hd⟩
            · exact (h5.le (Nat.le_add_left _ _) (Nat.le_succ _)).st s hs
    · rw [if_neg hk]
      rw [show keyX k a ks.length = (none, 0) by unfold keyX; rw [if_neg hk]]
      exact ⟨[(none, 0)], List.mem_singleton.2 rfl, by simp, KSet.nil _ _ _, fun m _ => depN_nil w m⟩
  termination_by d => d

theorem nodup_of {α : Type} [DecidableEq α] : ∀ (l : List α), ∃ m : List α, m.Nodup ∧ m.length ≤ l.length ∧ ∀ x, x ∈ m ↔ x ∈ l
  | [] => ⟨[], List.nodup_nil, Nat.le_refl _, fun x => Iff.rfl⟩
  | a :: l => by
    obtain ⟨m, h1, h2, h3⟩ := nodup_of l
    by_cases h : a ∈ m
    · exact ⟨m, h1, Nat.le_succ_of_le h2, fun x => by
        rw [h3, List.mem_cons]
        exact ⟨Or.inr, fun h4 => h4.elim (fun e => e ▸ (h3 a).1 h) id⟩⟩
    · exact ⟨a :: m, List.nodup_cons.2 ⟨h, h1⟩, Nat.succ_le_succ h2, fun x => by rw [List.mem_cons, List.mem_cons, h3]⟩
theorem wtS_bound {kids : Option Addr × Nat → List (Option Addr × Nat)} {f : Option Addr × Nat → Int} {N : Nat} : ∀ {R : List (Option Addr × Nat)}, (∀ r ∈ R, (kids r).length ≤ N) → wtS R kids f ≤ R.length * (N + 2)
  | [], _ => by simp [wtS]
  | r :: R, h => by
    have ih := wtS_bound (f := f) (fun r hr => h r (List.mem_cons_of_mem _ hr))
    have h1 := h r List.mem_cons_self
    have h2 : wtF kids f r ≤ N + 2 := by unfold wtF; split; omega; split <;> omega
    unfold wtS at ih ⊢
    rw [List.map_cons, List.sum_cons, List.length_cons, Nat.succ_mul]
    omega
/-- The rows below an expression, each once. -/
theorem rows_of {K : Nat → Prop} {w : World} (hK : K 0) {d : Nat} {x : PEx} {a : Option Addr} {c : Nat} (h : ExK K w d (.slice a x.ks.length c) x.ks) (hs : sizeI x ≤ 10000) :
    ∃ R dep, DRows R (kidsF w) dep ∧ keyX x.k a x.ks.length ∈ R ∧ dep (keyX x.k a x.ks.length) = deepI x ∧ (∀ s ∈ R, s ≠ (none, 0) → 0 < s.2 ∧ ∃ l : List PEx, s.2 = l.length ∧ l.length ≤ 10000 ∧ KidsAt w s.1 l (kidsF w s) ∧ KBlk w s) ∧ (∀ s ∈ R, dep s ≤ 10001) ∧ ∀ f, wtS R (kidsF w) f ≤ 200000000 := by
  obtain ⟨L, h1, h2, h3, h4⟩ := kset_of hK d x a c h
  obtain ⟨R, g1, g2, g3⟩ := nodup_of L
  refine ⟨R, depN w d, ⟨g1, fun r hr s hs => (g3 s).2 (h3.kid r ((g3 r).1 hr) s hs), depN_nil w d, fun r hr hn => ?_⟩, (g3 _).2 h1, h4 d (Nat.le_refl _), fun s hs0 hn => ?_, fun s hs => ?_, fun f => ?_⟩
  · obtain ⟨v, _, hv⟩ := h3.st r ((g3 r).1 hr)
    rw [hv d (Nat.le_refl _), ← hv (d + 1) (Nat.le_succ _), depN, if_neg hn]
  · obtain ⟨h5, h6, l, h7, h8, h9⟩ := h3.row s ((g3 s).1 hs0) hn
    exact ⟨h6, l, h7, by omega, h8, h9⟩
  · obtain ⟨v, hb, hv⟩ := h3.st s ((g3 s).1 hs)
    rw [hv d (Nat.le_refl _)]
    omega
  · have h5 : ∀ r ∈ R, (kidsF w r).length ≤ 10000 := fun r hr => by
      rw [kidsF_len]
      by_cases hn : r = (none, 0)
      · rw [hn]; exact Nat.zero_le _
      · have := (h3.row r ((g3 r).1 hr) hn).1
        omega
    have h6 := wtS_bound (f := f) h5
    have h7 : R.length * (10000 + 2) ≤ 10000 * (10000 + 2) := Nat.mul_le_mul_right _ (by omega)
    omega
end Go.Proofs.YtndmbljpfpnehaaGreatDoor
namespace Go.Proofs.YtndmbljpfpnehaaGreatDoor
open Go.RowKit Go.Lib Go.Op

def gX : PEx → Int → Int
  | .mk _ v x f ks, m => ks.foldl (fun n y => if n < m then n + gX y (m - n) else n) (1 + min (x.length : Int) 3000 + min (f.length : Int) 3000 + min (v.s.length : Int) 3000)
def gXs (l : List PEx) (n m : Int) : Int := l.foldl (fun n y => if n < m then n + gX y (m - n) else n) n
theorem gX_mk (k : Int) (v : PVal) (x f : List UInt8) (ks : List PEx) (m : Int) : gX (.mk k v x f ks) m = gXs ks (1 + min (x.length : Int) 3000 + min (f.length : Int) 3000 + min (v.s.length : Int) 3000) m := by
  rw [gX]
  rfl
theorem gXs_nil (n m : Int) : gXs [] n m = n := rfl
theorem gXs_cons (y : PEx) (r : List PEx) {n m : Int} (h : n < m) : gXs (y :: r) n m = gXs r (n + gX y (m - n)) m := by
  unfold gXs
  rw [List.foldl_cons, if_pos h]
theorem gXs_big {l : List PEx} {n m : Int} (h : ¬ n < m) : gXs l n m = n := by
  induction l with
  | nil => rfl
  | cons y r ih =>
    unfold gXs at ih ⊢
    rw [List.foldl_cons, if_neg h]
    exact ih
theorem gXs_le {l : List PEx} (hl : ∀ y ∈ l, ∀ m, 1 ≤ gX y m ∧ gX y m ≤ max m 0 + 9001) : ∀ (n m : Int), 0 ≤ n → n ≤ max m 0 + 9001 → n ≤ gXs l n m ∧ gXs l n m ≤ max m 0 + 9001 := by
  induction l with
  | nil => exact fun n m h1 h2 => by rw [gXs_nil]; omega
  | cons y r ih =>
    intro n m h1 h2
    by_cases h : n < m
    · rw [gXs_cons _ _ h]
      have h3 := hl y List.mem_cons_self (m - n)
      have h4 := ih (fun z hz => hl z (List.mem_cons_of_mem _ hz)) (n + gX y (m - n)) m (by omega) (by omega)
      omega
    · rw [gXs_big h]
      omega
theorem gX_le : ∀ (x : PEx) (m : Int), 1 ≤ gX x m ∧ gX x m ≤ max m 0 + 9001 := PEx.ind fun k v x f ks ih m => by
  have h := gXs_le ih (1 + min (x.length : Int) 3000 + min (f.length : Int) 3000 + min (v.s.length : Int) 3000) m (by omega) (by omega)
  rw [gX_mk]
  omega
theorem gXs_small {l : List PEx} (hl : ∀ y ∈ l, ∀ m, m ≤ 3000 → gX y m < m → (sizeI y : Int) ≤ gX y m ∧ XBd y) : ∀ (n m : Int), 0 ≤ n → m ≤ 3000 → gXs l n m < m → n + (sizeIs l : Int) ≤ gXs l n m ∧ ∀ y ∈ l, XBd y := by
  induction l with
  | nil =>
    intro n m _ _ h
    rw [gXs_nil, sizeIs_nil]
    exact ⟨by omega, fun y hy => by cases hy⟩
  | cons y r ih =>
    intro n m h0 hm h
    by_cases hn : n < m
    · rw [gXs_cons _ _ hn] at h ⊢
      have h3 := gX_le y (m - n)
      have h4 := gXs_le (l := r) (fun z _ => gX_le z) (n + gX y (m - n)) m (by omega) (by omega)
      have h1 := ih (fun z hz => hl z (List.mem_cons_of_mem _ hz)) (n + gX y (m - n)) m (by omega) hm h
      have h2 := hl y List.mem_cons_self (m - n) (by omega) (by omega)
      rw [sizeIs_cons]
      refine ⟨by omega, fun z hz => ?_⟩
      rcases List.mem_cons.1 hz with rfl | hz
      · exact h2.2
      · exact h1.2 z hz
    · rw [gXs_big hn] at h
      exact absurd h hn
theorem gX_small : ∀ (x : PEx) (m : Int), m ≤ 3000 → gX x m < m → (sizeI x : Int) ≤ gX x m ∧ XBd x := PEx.ind fun k v x f ks ih m hm h => by
  rw [gX_mk] at h ⊢
  have h1 := gXs_le (l := ks) (fun z _ => gX_le z) (1 + min (x.length : Int) 3000 + min (f.length : Int) 3000 + min (v.s.length : Int) 3000) m (by omega) (by omega)
  have h2 := gXs_small ih (1 + min (x.length : Int) 3000 + min (f.length : Int) 3000 + min (v.s.length : Int) 3000) m (by omega) hm h
  rw [sizeI_mk]
  exact ⟨by omega, .mk _ _ _ _ _ (by omega) (by omega) (by omega) h2.2⟩

set_option maxHeartbeats 2000000 in
set_option maxRecDepth 100000 in
theorem greatX_step {w : World} {a : Option Addr} {c : Nat} {k m : Int} {v : PVal} {xx f : List UInt8} {ks : List PEx} (lv : v.s.length ≤ maxLen) (lx : xx.length ≤ maxLen) (lf : f.length ≤ maxLen) (lk : ks.length ≤ maxLen) (hm : -20000 ≤ m ∧ m ≤ 20000)
    (hk : ∀ j y, ks[j]? = some y → ∃ g o a' c', a = some ⟨g, o, none⟩ ∧ (w.cell? ⟨g, o + j * 7, none⟩ = some (.int .i64 y.k) ∧ w.cell? ⟨g, o + j * 7 + 1, none⟩ = some (.int .i64 y.v.k) ∧ w.cell? ⟨g, o + j * 7 + 2, none⟩ = some (.int .i64 y.v.n) ∧ w.cell? ⟨g, o + j * 7 + 3, none⟩ = some (.string (strB y.v.s)) ∧ w.cell? ⟨g, o + j * 7 + 4, none⟩ = some (.string (strB y.x)) ∧ w.cell? ⟨g, o + j * 7 + 5, none⟩ = some (.string (strB y.f)) ∧ w.cell? ⟨g, o + j * 7 + 6, none⟩ = some (.slice a' y.ks.length c')) ∧
      ∀ W m', Below w.heap.size w W → -20000 ≤ m' ∧ m' ≤ 20000 → Calls Tryz.prog 37 #[exV y (.slice a' y.ks.length c'), .int .i64 m'] W fun e w' => e = .returned (.int .i64 (gX y m')) ∧ Below W.heap.size W w') :
    Calls Tryz.prog 37 #[.agg #[.int .i64 k, .int .i64 v.k, .int .i64 v.n, .string (strB v.s), .string (strB xx), .string (strB f), .slice a ks.length c], .int .i64 m] w fun e w' => e = .returned (.int .i64 (gX (.mk k v xx f ks) m)) ∧ Below w.heap.size w w' := by
  have hz0 : gX (.mk k v xx f ks) m = gXs ks (1 + min (xx.length : Int) 3000 + min (f.length : Int) 3000 + min (v.s.length : Int) 3000) m := gX_mk _ _ _ _ _ _
  obtain ⟨z, hz⟩ : ∃ z, gX (.mk k v xx f ks) m = z := ⟨_, rfl⟩
  rw [hz]
  rw [hz] at hz0
  have hzb := gX_le (.mk k v xx f ks) m
  rw [hz] at hzb
  have HK := Lib.hid hk
  obtain ⟨sx, hsx⟩ : ∃ s, strB xx = s := ⟨_, rfl⟩
  obtain ⟨sf, hsf⟩ : ∃ s, strB f = s := ⟨_, rfl⟩
  obtain ⟨ss, hss⟩ : ∃ s, strB v.s = s := ⟨_, rfl⟩
  have l1 : sx.size = xx.length := by rw [← hsx, strB_size]
  have l2 : sf.size = f.length := by rw [← hsf, strB_size]
  have l3 : ss.size = v.s.length := by rw [← hss, strB_size]
  rw [← l1] at lx hz0
  rw [← l2] at lf hz0
  rw [← l3] at lv hz0
  rw [hsx, hsf, hss]
  obtain ⟨q, hq⟩ : ∃ q, ks.length = q := ⟨_, rfl⟩
  rw [hq] at lk ⊢
  have HQ := Lib.hid hq
  have HZ := Lib.hid hz0
  have HB0 := Lib.hid ((Below.refl w.heap.size w).alloc (Nat.le_refl _) (.cells #[.int .i64 k, .int .i64 v.k, .int .i64 v.n, .string ss, .string sx, .string sf, .slice a q c] 38))
  have HX := Lib.hid (XBlk.new w (.int .i64 k) (.int .i64 v.k) (.int .i64 v.n) (.string ss) (.string sx) (.string sf) (.slice a q c))
  unfold maxLen at lv lx lf lk
  clear hk hz hz0 hq hsx hsf hss l1 l2 l3
  go_enter Tryz.func37, Tryz.ntmps37
  go_wp2
  go_loopw [5, 6] (fun n i wr => ∃ (j : Nat) (N : Int), n = .int .i64 N ∧ i = .int .i64 j ∧ j ≤ q ∧ (0 ≤ N ∧ N ≤ 30000) ∧ Hid (gXs (ks.drop j) N m = z) ∧ Hid (Below (w.heap.size + 1) (w.alloc (.cells #[.int .i64 k, .int .i64 v.k, .int .i64 v.n, .string ss, .string sx, .string sf, .slice a q c] 38)) wr)) (fun _ i _ => q - (RowKit.intOf i).toNat)
  case atStart => exact ⟨0, _, rfl, rfl, Nat.zero_le _, ⟨by omega, by omega⟩, HZ.out.symm, Below.refl _ _⟩
  case round =>
    obtain ⟨j, N, rfl, rfl, hj, hN, HG, HB⟩ := hrel
    have hx := (HB.out.block w.heap.size (Nat.lt_succ_self _)).trans HX.out
    obtain ⟨_, _, _, _, _, _, x6, _, _, _, _, _, _, _⟩ := XBlk.all hx
    have HBw := Lib.hid (HB0.out.trans (HB.out.mono (Nat.le_succ _)))
    have hsz : w.heap.size + 1 ≤ wr.heap.size := by
      have := HB.out.size
      simpa using this
    by_cases hlt : j < q
    · by_cases hm2 : N < m
      · obtain ⟨y, hy⟩ : ∃ y, ks[j]? = some y := ⟨_, List.getElem?_eq_getElem (by rw [HQ.out]; exact hlt)⟩
        obtain ⟨g, o, a', c', rfl, ⟨e0, e1, e2, e3, e4, e5, e6⟩, hcall⟩ := HK.out j y hy
        have d0 := tkeep HBw.out e0
        have d1 := tkeep HBw.out e1
        have d2 := tkeep HBw.out e2
        have d3 := tkeep HBw.out e3
        have d4 := tkeep HBw.out e4
        have d5 := tkeep HBw.out e5
        have d6 := tkeep HBw.out e6
        obtain ⟨n2, hn2⟩ : ∃ n2, y.ks.length = n2 := ⟨_, rfl⟩
        rw [hn2] at d6 hcall
        have hgl := gX_le y (m - N)
        obtain ⟨G, hG⟩ : ∃ G, gX y (m - N) = G := ⟨_, rfl⟩
        rw [hG] at hgl
        have HC := hcall wr (m - N) HBw.out (by omega)
        rw [hG] at HC
        simp only [xexV] at HC
        have HC := Lib.hid HC
        have HN : Hid (gXs (ks.drop (j + 1)) (N + G) m = z) := by
          show _ = _
          have hdr : ks.drop j = y :: ks.drop (j + 1) := by
            rw [List.drop_eq_getElem_cons (by rw [HQ.out]; exact hlt)]
            congr 1
            rw [List.getElem?_eq_getElem (by rw [HQ.out]; exact hlt)] at hy
            exact Option.some.inj hy
          rw [← HG.out, hdr, gXs_cons _ _ hm2, hG]
        have t1 : decide (N < m) = true := decide_eq_true hm2
        have hN2 : 0 ≤ N + G ∧ N + G ≤ 30000 := by omega
        clear hy hcall hn2 hG e0 e1 e2 e3 e4 e5 e6 hx
        go_wp2_with (go_at_call 37; (with_reducible refine HC.out.mono ?_); rintro e w1 ⟨rfl, hb1⟩; have HB1 := Lib.hid (HB.out.trans (hb1.mono hsz)); clear hb1)
        go_round
        case rel => exact ⟨j + 1, N + G, by go_num, by go_num, by omega, hN2, HN, HB1⟩
        case measure => simp [RowKit.intOf]; omega
      · have t1 : decide (N < m) = false := decide_eq_false hm2
        have HE : Hid (N = z) := by
          show _ = _
          rw [← HG.out, gXs_big hm2]
        clear hx
        go_wp2
        go_ret
        obtain rfl : N = z := HE.out
        exact ⟨rfl, HBw.out⟩
    · have HE : Hid (N = z) := by
        show _ = _
        rw [← HG.out, List.drop_of_length_le (by rw [HQ.out]; omega), gXs_nil]
      clear hx
      go_wp2
      go_ret
      obtain rfl : N = z := HE.out
      exact ⟨rfl, HBw.out⟩
theorem greatX_calls {K : Nat → Prop} : ∀ (d : Nat) (x : PEx) (_ : XLn x) (w : World) (a : Option Addr) (c : Nat) (_ : ExK K w d (.slice a x.ks.length c) x.ks) (m : Int) (_ : -20000 ≤ m ∧ m ≤ 20000), Calls Tryz.prog 37 #[exV x (.slice a x.ks.length c), .int .i64 m] w fun e w' => e = .returned (.int .i64 (gX x m)) ∧ Below w.heap.size w w' := fun d => by
  induction d with
  | zero =>
    intro x hx w a c h m hm
    obtain ⟨k, v, xx, f, ks, lv, lx, lf, lk, _⟩ := hx
    obtain ⟨_, h0⟩ := h
    have h0 : ks = [] := h0
    exact greatX_step lv lx lf lk hm (fun j y hy => by
      rw [h0] at hy
      have hy : ([] : List PEx)[j]? = some y := hy
      simp at hy)
  | succ d ih =>
    intro x hx w a c h m hm
    obtain ⟨k, v, xx, f, ks, lv, lx, lf, lk, hk⟩ := hx
    obtain ⟨a', c', e, h⟩ := h
    injection e with e1 e2 e3
    subst e1 e3
    refine greatX_step lv lx lf lk hm (fun j y hy => ?_)
    obtain ⟨g, o, kv', ea, _, hc, hkk⟩ := h j y hy
    obtain ⟨a2, c2, rfl⟩ := hkk.slice
    exact ⟨g, o, a2, c2, ea, hc, fun W m' hW hm' => ih y (hk y (List.mem_of_getElem? hy)) W a2 c2 (hkk.keep (TFr.of_below (K := K) hW)) m' hm'⟩
end Go.Proofs.YtndmbljpfpnehaaGreatDoor
