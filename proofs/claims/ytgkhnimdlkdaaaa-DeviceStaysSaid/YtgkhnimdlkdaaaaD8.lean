/- A file of a device is made or written: what the device is then. -/
import Derived.Test.YtgkhnimdlkdaaaaD7
import Derived.Maps.AppendAt
import Derived.Laws.AppendOwnNone
namespace Go.Proofs.Ytgkhnimdlkdaaaa
open Go.RowKit Go.Lib Go.Maps

/-- The files with one put in its place, or taken out. -/
def setF {α : Type} (files : List UInt8 → Option α) (k : List UInt8) (o : Option α) : List UInt8 → Option α := fun k' => if k' = k then o else files k'
theorem setF_same {α : Type} (files : List UInt8 → Option α) (k : List UInt8) (o : Option α) : setF files k o k = o := by simp [setF]
theorem setF_other {α : Type} (files : List UInt8 → Option α) {k k' : List UInt8} (o : Option α) (h : k' ≠ k) : setF files k o k' = files k' := by simp [setF, h]
theorem setF_self {α : Type} (files : List UInt8 → Option α) {k : List UInt8} {o : Option α} (h : files k = o) : setF files k o = files := by
  funext k'
  by_cases e : k' = k
  · subst e; rw [setF_same, h]
  · rw [setF_other _ _ e]
theorem setF_twice {α : Type} (files : List UInt8 → Option α) (k : List UInt8) (o o' : Option α) : setF (setF files k o) k o' = setF files k o' := by
  funext k'
  by_cases e : k' = k <;> simp [setF, e]

/-- One block more has an owner. -/
def setO (own : Owner) (b : Nat) (x : Nat × List UInt8) : Owner := fun b' => if b' = b then some x else own b'
theorem setO_same (own : Owner) (b : Nat) (x : Nat × List UInt8) : setO own b x b = some x := by simp [setO]
theorem setO_other (own : Owner) {b b' : Nat} (x : Nat × List UInt8) (h : b' ≠ b) : setO own b x b' = own b' := by simp [setO, h]

section
variable {S : Prop} {w w' : World} {own own' : Owner} {db fb rb : Nat} {D D' E : DataW Unit} {n n' : Nat} {m : DevM}

theorem Dev.mono (h : Dev S w own db fb rb D E n m) (hn : n ≤ n') : Dev S w own db fb rb D E n' m := { h with cnt := Nat.le_trans h.cnt hn }

theorem Dev.setFile (h : Dev S w own db fb rb D E n m) {k : List UInt8} {f : FileM} {p : Nat} {dv : Value} (hsz : w.heap.size ≤ w'.heap.size)
    (hkeep : ∀ b, own b ≠ none → b ≠ fb → own b ≠ some (3, k) → own b ≠ some (4, k) → w'.heap[b]? = w.heap[b]?)
    (hown : ∀ b, own b ≠ none → own' b = own b) (hold : ∀ b, w'.heap.size ≤ b → own' b = none)
    (hm : ∃ c, w'.ownsMap Try.prog 9 ptrR fb c D') (hcnt : Maps.size D' + Maps.size E ≤ n')
    (hat : ∀ z, D'.atKey (.string k) z = .lit (.int .u64 p)) (hhas : ∀ k', k' ≠ k → Maps.has D' (.string k') = Maps.has D (.string k')) (hoth : ∀ k' z, k' ≠ k → D'.atKey (.string k') z = D.atKey (.string k') z)
    (hfile : FileAt w' p dv f) (hp : own' p = some (3, k)) (hg : ∀ g, dv.ownBlock = some g → own' g = some (4, k)) :
    Dev S w' own' db fb rb D' E n' { m with files := setF m.files k (some f) } := by
  have keep : ∀ b t, own b = some t → t.1 ≠ 1 → (t.1 = 3 ∨ t.1 = 4 → t.2 ≠ k) → w'.heap[b]? = w.heap[b]? := fun b t hb h1 h2 => by
    refine hkeep b (by simp [hb]) (fun e => ?_) (fun e => ?_) (fun e => ?_)
    · rw [e, h.ofb] at hb; injection hb with hb; rw [← hb] at h1; exact h1 rfl
    · rw [hb] at e; injection e with e; rw [e] at h2; exact h2 (Or.inl rfl) rfl
    · rw [hb] at e; injection e with e; rw [e] at h2; exact h2 (Or.inr rfl) rfl
  have own_ : ∀ b t, own b = some t → own' b = some t := fun b t hb => (hown b (by simp [hb])).trans hb
  exact {
    blk := (keep db _ h.odb (by simp) (by simp)).trans h.blk
    fmap := hm
    rmap := let ⟨c, hc⟩ := h.rmap; ⟨c, ownsMap_of_block hc (keep rb _ h.orb (by simp) (by simp))⟩
    cnt := hcnt
    dom := fun k' => by
      by_cases e : k' = k
      · subst e
        simp only [setF_same, Option.isSome_some]
        exact Maps.has_true_of_atKey hat
      · simp only [setF_other _ _ e, hhas k' e]
        exact h.dom k'
    rdom := h.rdom
    rback := h.rback
    fil := fun k' f' hf' => by
      by_cases e : k' = k
      · subst e
        simp only [setF_same, Option.some.injEq] at hf'
        subst hf'
        exact ⟨p, dv, hat, hfile, hp, hg⟩
      · simp only [setF_other _ _ e] at hf'
        obtain ⟨p', dv', h1, h2, h3, h4⟩ := h.fil k' f' hf'
        exact ⟨p', dv', fun z => (hoth k' z e).trans (h1 z), h2.kept (keep p' _ h3 (by simp) (fun _ => e)) (fun g hg' => keep g _ (h4 g hg') (by simp) (fun _ => e)), own_ _ _ h3, fun g hg' => own_ _ _ (h4 g hg')⟩
    rem := fun k' d hd => by
      obtain ⟨dv', h1, h2, h3, h4⟩ := h.rem k' d hd
      exact ⟨dv', h1, ownsRow_of_block h2 (fun g hg' => keep g _ (h4 g hg') (by simp) (by simp)), h3, fun g hg' => own_ _ _ (h4 g hg')⟩
    odb := own_ _ _ h.odb
    ofb := own_ _ _ h.ofb
    orb := own_ _ _ h.orb
    old := hold
    rroom := h.rroom
    rfuse := h.rfuse
    racts := h.racts }

/-- What 'file' gives: a pointer to the file of a name, as it was, or new and empty. -/
theorem Dev.file (h : Dev S w own db fb rb D E n m) (hn : n ≤ 1099511627776) {s : ByteArray} (hs : s.size ≤ 281474976710656) :
    Calls Try.prog 38 #[.pointer (some ⟨db, 0, none⟩), .string s] w fun e w' => ∃ own' D' p dv f, e = .returned (.pointer (some ⟨p, 0, none⟩)) ∧ Dev S w' own' db fb rb D' E (n + 1) { m with files := setF m.files s.data.toList (some f) } ∧
      f = (m.files s.data.toList).getD ⟨[], 0, true⟩ ∧ (∀ z, D'.atKey (.string s.data.toList) z = .lit (.int .u64 p)) ∧ FileAt w' p dv f ∧ own' p = some (3, s.data.toList) ∧ (∀ g, dv.ownBlock = some g → own' g = some (4, s.data.toList)) ∧ Step own own' w w' := by
  have hs' : s.size ≤ maxLen := by unfold maxLen; omega
  cases hf : m.files s.data.toList with
  | some f =>
    obtain ⟨p, dv, hl, hat, hfa, hp, hg⟩ := h.look_some hs' hf
    refine (file_old db fb p s w h.c1 hl).mono ?_
    rintro e w' ⟨rfl, rfl⟩
    refine ⟨own, D, p, dv, f, rfl, ?_, rfl, hat, hfa, hp, hg, Step.refl _ _⟩
    rw [setF_self _ hf]
    exact h.mono (by omega)
  | none =>
    have hl := h.look_none hs' hf
    obtain ⟨c0, hc0⟩ := h.fmap
    -- the map's bound, as close as it is
    obtain ⟨c, hc, hcn⟩ : ∃ c, w.ownsMap Try.prog 9 ptrR fb c D ∧ c ≤ n := by
      have hcnt := h.cnt
      obtain ⟨es, clock, h1, h2, h3, h4⟩ := hc0
      refine ⟨es.size, ⟨es, clock, h1, h2, Nat.le_refl _, h4⟩, ?_⟩
      have : Maps.size D = es.size := by rw [h4]; simp [Maps.size, length_sorted]
      omega
    have hnone := h.old w.heap.size (Nat.le_refl _)
    refine (file_new db fb c D s w h.c1 hc (by unfold maxLen; omega) hs hl).mono ?_
    rintro e w' ⟨rfl, hm, hblk, hfr, hsz⟩
    have hfa : FileAt w' w.heap.size (.slice none 0 0) ⟨[], 0, true⟩ := ⟨hblk, World.ownsRow_nil _ _ _ _, Nat.le_refl _, Nat.zero_le _⟩
    have hnh : Maps.has D (.string s.data.toList) = false := by
      have := h.dom s.data.toList
      rw [hf] at this
      simpa using this
    have hmap := hc.isMap
    refine ⟨setO own w.heap.size (3, s.data.toList), D.put (.string s.data.toList) (.lit (.int .u64 (w.heap.size : Nat))), w.heap.size, .slice none 0 0, ⟨[], 0, true⟩, rfl, ?_, rfl, fun z => Maps.atKey_put_same (k := .string s.data.toList) hmap trivial _ _, hfa, setO_same _ _ _, fun g hg => by simp [Value.ownBlock] at hg, ?_⟩
    · refine h.setFile (p := w.heap.size) (dv := .slice none 0 0) (by omega) (fun b hb h1 _ _ => hfr.block b (h.lt hb) h1) (fun b hb => setO_other _ _ (fun e => by subst e; exact hb hnone)) (fun b hb => ?_) ⟨_, hm⟩ ?_ (fun z => Maps.atKey_put_same (k := .string s.data.toList) hmap trivial _ _) (fun k' e => Maps.has_put_other (fun e1 => e (by injection e1)) _) (fun k' z e => Maps.atKey_put_other (fun e1 => e (by injection e1)) _ _) hfa (setO_same _ _ _) (fun g hg => by simp [Value.ownBlock] at hg)
      · rw [setO_other _ _ (by omega)]
        exact h.old b (by omega)
      · have := h.cnt
        rw [Maps.size_put (hc.tidy lawS), hnh]
        simp
        omega
    · exact ⟨hfr.mono (fun b hb => by subst hb; simp [h.ofb]), fun b hb hb' => by rw [setO_other _ _ (by omega)]; exact hb'⟩

/-- Bytes that were handed in, in memory that the device doesn't own. -/
def BArg (w : World) (own : Owner) (bv : Value) (bs : List UInt8) : Prop :=
  (bv = .slice none 0 0 ∧ bs = []) ∨ ∃ A c, bv = .slice (some A) bs.length c ∧ (bs ≠ [] → own A.block = none) ∧ ∀ j x, bs[j]? = some x → w.cell? (A.add j) = some (.int .u8 x.toNat)

theorem add_block (a : Addr) (n : Nat) : (a.add n).block = a.block := by unfold Addr.add; split <;> rfl

theorem BArg.step {bv : Value} {bs : List UInt8} (h : BArg w own bv bs) (hs : Step own own' w w') : BArg w' own' bv bs := by
  rcases h with h | ⟨A, c, h1, h3, h4⟩
  · exact Or.inl h
  · refine Or.inr ⟨A, c, h1, fun hne => ?_, fun j x hx => ?_⟩
    · cases bs with
      | nil => exact absurd rfl hne
      | cons x l =>
        have h5 := World.block_lt_of_cell? _ _ (h4 0 x rfl)
        rw [add_block] at h5
        exact hs.own _ h5 (h3 hne)
    · have h5 := h4 j x hx
      have h6 := h3 (fun e => by subst e; simp at hx)
      rw [World.cell?_of_block (hs.fr.block _ (World.block_lt_of_cell? _ _ h5) (by rw [add_block]; simp [h6]))]
      exact h5

theorem BArg.len {bv : Value} {bs : List UInt8} (h : BArg w own bv bs) : ∃ a c, bv = .slice a bs.length c := by
  rcases h with ⟨rfl, rfl⟩ | ⟨A, c, h1, _⟩
  · exact ⟨_, _, rfl⟩
  · exact ⟨_, _, h1⟩

/-- The builtin append of such bytes onto a row that is owned. -/
theorem run_append_barg {bv : Value} {bs : List UInt8} (hb : BArg w own bv bs) {v : Value} {l : Nat} {xs : List Value} (hown : w.ownsRow 0 5 1 v l xs) (h63 : l + bs.length ≤ 140737488355328) (ty : TypeId) :
    ∃ v' w', (Builtin.append_ #[31, 31] ty #[v, bv]).run Try.prog w = .ok v' w' ∧ w'.ownsRow 0 5 1 v' (l + bs.length) (xs ++ byteCells bs) ∧ w.grownBy w' v.ownBlock ∧ (v'.ownBlock = v.ownBlock ∨ v'.ownBlock = some w.heap.size) := by
  obtain ⟨i0, hi, hz0, hz1, hz2⟩ := info_parts infoB
  rcases hb with ⟨rfl, rfl⟩ | ⟨A, c, rfl, _, hc⟩
  · refine ⟨v, w, run_append_owned_none w 0 31 ty 5 i0 1 Try.underlying31 hi v l xs hown, ?_, ⟨rfl, rfl, rfl, Nat.le_refl _, fun _ _ _ => rfl⟩, Or.inl rfl⟩
    simpa [byteCells] using hown
  · obtain ⟨v', w', h1, h2, h3, _, h5⟩ := run_append_own_at (P := Try.prog) w 0 31 ty 5 i0 (.int .u8 0) 1 1 Try.underlying31 hi hz0 hz1 hz2 rfl (by decide) v l xs hown A bs.length c (byteCells bs) (by simp [byteCells_length])
      (fun j u hu => by
        simp only [byteCells, List.getElem?_map, Option.map_eq_some_iff] at hu
        obtain ⟨x, hx, rfl⟩ := hu
        exact hc j x hx) (byteCells_one bs) (by unfold maxLen; omega) (by omega) (Nat.zero_le _)
    exact ⟨v', w', h1, h2, h3, h5⟩

theorem wpList_append_barg {ops : Array Oper} {rest : List Oper} {o : Oper} {a : Act} {Q : Exit → Act → World → Prop} (hgd : o.guard = none) (s x : Operand)
    (ho : o.op = .call { callee := .builtin .append, args := #[s, x], argTypes := #[31, 31] })
    {bv : Value} {bs : List UInt8} (hb : BArg w own bv bs) {v : Value} {l : Nat} {xs : List Value} (hown : w.ownsRow 0 5 1 v l xs) (h63 : l + bs.length ≤ 140737488355328)
    (hs : a.eval s = v) (hx : a.eval x = bv)
    (h : ∀ a' l' c' w', w'.ownsRow 0 5 1 (.slice a' l' c') (l + bs.length) (xs ++ byteCells bs) → w.grownBy w' v.ownBlock → ((Value.slice a' l' c').ownBlock = v.ownBlock ∨ (Value.slice a' l' c').ownBlock = some w.heap.size) → wpList Try.prog ops Q rest (a.put o.dst (.slice a' l' c')) w') :
    wpList Try.prog ops Q (o :: rest) a w := by
  refine wpList_plain hgd fun K hK => ?_
  obtain ⟨v', w', hr, h2, h3, h4⟩ := run_append_barg hb hown h63 o.type
  obtain ⟨a', l', c', rfl⟩ : ∃ a' l' c', v' = .slice a' l' c' := by
    rcases h2.2 with ⟨rfl, _⟩ | ⟨g, cap, cur, rfl, _⟩ <;> exact ⟨_, _, _, rfl⟩
  unfold Oper.wp execOp
  simp only [ho, resolve, invoke, builtin, Sem.run_bind, Sem.run_pure, Result.andThen_ok, List.map_toArray, List.map_cons, List.map_nil, hs, hx, hr]
  exact hK _ _ (h a' l' c' w' h2 h3 h4)

/-- The bytes of a file have grown, and its block has been told. -/
theorem Dev.appended (h : Dev S w own db fb rb D E n m) {k : List UInt8} {f : FileM} {p : Nat} {dv v' : Value} {bs : List UInt8} (hat : ∀ z, D.atKey (.string k) z = .lit (.int .u64 p))
    (hfa : FileAt w p dv f) (hp : own p = some (3, k)) (hg : ∀ g, dv.ownBlock = some g → own g = some (4, k))
    (hrow : w'.ownsRow 0 5 1 v' (f.data.length + bs.length) (byteCells f.data ++ byteCells bs)) (hgr : w.grownBy w' dv.ownBlock) (hv : v'.ownBlock = dv.ownBlock ∨ v'.ownBlock = some w.heap.size) (hlen : f.data.length + bs.length ≤ 262144) :
    ∃ own', Dev S (w'.setCell ⟨p, 0, none⟩ v') own' db fb rb D E n { m with files := setF m.files k (some ⟨f.data ++ bs, f.synced, f.fresh⟩) } ∧ Step own own' w (w'.setCell ⟨p, 0, none⟩ v') := by
  have hplt := h.lt (b := p) (by simp [hp])
  have hpn : dv.ownBlock ≠ some p := fun e => by have := hg p e; rw [hp] at this; simp at this
  have hvp : v'.ownBlock ≠ some p := fun e => by
    rcases hv with h1 | h1
    · exact hpn (h1 ▸ e)
    · rw [h1] at e; injection e with e; omega
  have hpblk : w'.heap[p]? = some (.cells #[dv, .int .i64 f.synced, .bool f.fresh] 68 (0, 0)) := (hgr.block p hplt (fun e => hpn e.symm)).trans hfa.1
  have hnone := h.old w.heap.size (Nat.le_refl _)
  -- who owns what behind it
  refine ⟨fun b => if v'.ownBlock = some b then some (4, k) else own b, ?_, ?_⟩
  · refine h.setFile (p := p) (dv := v') (by simpa [World.setCell] using hgr.size) (fun b hb _ h3 h4 => ?_) (fun b hb => ?_) (fun b hb => ?_) ?_ h.cnt hat (fun _ _ => rfl) (fun _ _ _ => rfl) ?_ ?_ (fun g hg' => by simp [hg'])
    · rw [Below.heap_setCell _ _ _ _ (fun e => h3 (by rw [e]; exact hp))]
      exact hgr.block b (h.lt hb) (fun e => h4 (hg b e.symm))
    · show (if v'.ownBlock = some b then some (4, k) else own b) = own b
      split
      · rename_i he
        rcases hv with h1 | h1
        · exact (hg b (h1 ▸ he)).symm
        · rw [h1] at he; injection he with he; subst he; exact absurd hnone hb
      · rfl
    · have hb' : w'.heap.size ≤ b := by simpa [World.setCell] using hb
      have hne : v'.ownBlock ≠ some b := fun e => by have := (hrow.lt b e).2; omega
      simp only [hne, if_false]
      exact h.old b (Nat.le_trans hgr.size hb')
    · obtain ⟨c, hc⟩ := h.fmap
      refine ⟨c, ownsMap_of_block hc ?_⟩
      rw [Below.heap_setCell _ _ _ _ (fun e => by have := h.ofb; rw [e] at this; change own p = _ at this; rw [hp] at this; simp at this)]
      exact hgr.block fb hc.lt (fun e => by have := hg fb e.symm; rw [h.ofb] at this; simp at this)
    · refine ⟨by rw [setCell_blk hpblk]; rfl, ?_, ?_, ?_⟩
      · have hlen' : (f.data ++ bs).length = f.data.length + bs.length := List.length_append
        rw [hlen', byteCells_append]
        exact ownsRow_of_block hrow (fun g hg' => Below.heap_setCell _ _ _ _ (fun e => hvp (by rw [hg', e])))
      · have := hfa.2.2.1; simp only [List.length_append]; omega
      · simp only [List.length_append]; omega
    · simp only [hvp, if_false]; exact hp
  · refine ⟨((Fr.refl _ _).grown hgr (fun g hg' _ => by simp [hg g hg'])).setCell _ _ (fun _ => by simp [hp]), fun b hb hb' => ?_⟩
    have hne : v'.ownBlock ≠ some b := fun e => by
      rcases hv with h1 | h1
      · have := hg b (h1 ▸ e); rw [hb'] at this; simp at this
      · rw [h1] at e; injection e with e; omega
    simp only [hne, if_false]
    exact hb'

end
end Go.Proofs.Ytgkhnimdlkdaaaa
