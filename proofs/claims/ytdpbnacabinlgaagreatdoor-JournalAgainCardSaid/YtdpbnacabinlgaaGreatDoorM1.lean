/- 'file' of a device: the file of a name, made if it isn't there. | A file of a device is made or written: what the device is then. | Append of a device, in each of its cases. | Append of a device in one word; Remove of a device. | Remove of a file that is there. -/
import Derived.Test.YtdpbnacabinlgaaGreatDoorM0
import Derived.Maps.OwnSet
import Derived.Deep.RegionWith
import Derived.Maps.AppendAt
import Derived.Laws.AppendOwnNone
import Derived.IntWalk
import Derived.Deep.RegionHeld3
namespace Go.Proofs.YtdpbnacabinlgaaGreatDoor
open Go.RowKit Go.Lib Go.Maps

/-- What 'file' leaves where there was none. -/
def FNew (fb c : Nat) (D : DataW Unit) (k : List UInt8) (w w' : World) : Prop :=
  w'.ownsMap Tryz.prog 9 ptrR fb (c + 1) (D.put (.string k) (.lit (.int .u64 (w.heap.size : Nat)))) ∧
  w'.heap[w.heap.size]? = some (.cells #[.slice none 0 0, .int .i64 0, .bool true] 78 (0, 0)) ∧ Fr (fun b => b = fb) w w' ∧ w.heap.size + 1 ≤ w'.heap.size

theorem fnew_of {fb c : Nat} {D : DataW Unit} {k : List UInt8} {w W w2 w3 : World} (hW : W.heap = (w.alloc (.cells #[.slice none 0 0, .int .i64 0, .bool true] 78)).heap) (hWo : W.os = w.os ∧ W.tape = w.tape ∧ W.output = w.output) (hfb : fb < w.heap.size)
    (hb : Below W.heap.size W w2) (hm : w3.ownsMap Tryz.prog 9 ptrR fb (c + 1) (D.put (.string k) (.lit (.int .u64 (w.heap.size : Nat))))) (ht : w2.grownBy w3 (some fb)) : FNew fb c D k w w3 := by
  have hsz : W.heap.size = w.heap.size + 1 := by rw [hW]; simp
  have h1 : w2.heap[w.heap.size]? = some (.cells #[.slice none 0 0, .int .i64 0, .bool true] 78 (0, 0)) := by
    rw [hb.block _ (by omega), hW]
    exact heap_alloc_new w _
  refine ⟨hm, ?_, ⟨ht.os.trans (hb.os.trans hWo.1), ht.tape.trans (hb.tape.trans hWo.2.1), ht.output.trans (hb.output.trans hWo.2.2), ?_, fun i hi hn => ?_⟩, ?_⟩
  · rw [ht.block _ (by have := hb.size; omega) (by simp; omega)]
    exact h1
  · have := hb.size; have := ht.size; omega
  · rw [ht.block i (by have := hb.size; omega) (by simpa using hn), hb.block i (by omega), hW]
    exact Below.heap_alloc w _ _ hi
  · have := hb.size; have := ht.size; omega

/-- strings.Clone in the world behind the new file's block, with what the store of it does then. -/
theorem sclone_file (db fb c : Nat) (D : DataW Unit) (s : ByteArray) (w W : World) (c1 : w.cell? ⟨db, 1, none⟩ = some (.map (some fb))) (hc : w.ownsMap Tryz.prog 9 ptrR fb c D) (hcn : c < maxLen) (hs' : s.size ≤ 281474976710656)
    (hW : W.heap = (w.alloc (.cells #[.slice none 0 0, .int .i64 0, .bool true] 78)).heap) (hWo : W.os = w.os ∧ W.tape = w.tape ∧ W.output = w.output) :
    Calls Tryz.prog 73 #[.string s] W fun e w2 => e = .returned (.string s) ∧ w2.cell? ⟨db, 1, none⟩ = some (.map (some fb)) ∧
      ∃ w3, (Instr.mapUpdate 72 (.map (some fb)) (.string s) (.pointer (some ⟨w.heap.size, 0, none⟩))).run Tryz.prog w2 = .ok () w3 ∧ Hid (FNew fb c D s.data.toList w w3) := by
  have hs : s.size ≤ maxLen := by unfold maxLen; omega
  have hdb : db < w.heap.size := World.block_lt_of_cell? w _ c1
  have hfb := hc.lt
  have hsz : W.heap.size = w.heap.size + 1 := by rw [hW]; simp
  refine (sclone_calls s W hs').mono ?_
  rintro e w2 ⟨rfl, hb⟩
  have hb0 : ∀ b, b < w.heap.size → w2.heap[b]? = w.heap[b]? := fun b hb1 => by
    rw [hb.block b (by omega), hW]
    exact Below.heap_alloc w _ _ hb1
  obtain ⟨w3, hrun, hm, ht⟩ := (ownsMap_of_block hc (hb0 fb hfb)).update lawS Tryz.underlying72 hcn (val := .pointer (some ⟨w.heap.size, 0, none⟩)) (WideMaps.keyOf_string_mk Tryz.underlying9 hs) rfl
  exact ⟨rfl, (World.cell?_of_block (hb0 db hdb)).trans c1, w3, hrun, fnew_of hW hWo hfb hb hm ht⟩

set_option maxHeartbeats 1000000 in
set_option maxRecDepth 100000 in
theorem file_new (db fb c : Nat) (D : DataW Unit) (s : ByteArray) (w : World) (c1 : w.cell? ⟨db, 1, none⟩ = some (.map (some fb))) (hc : w.ownsMap Tryz.prog 9 ptrR fb c D) (hcn : c < maxLen) (hs' : s.size ≤ 281474976710656)
    (hl : (Instr.lookup 72 (.map (some fb)) (.string s) false).run Tryz.prog w = .ok (.pointer none) w) :
    Calls Tryz.prog 37 #[.pointer (some ⟨db, 0, none⟩), .string s] w fun e w' => e = .returned (.pointer (some ⟨w.heap.size, 0, none⟩)) ∧ FNew fb c D s.data.toList w w' := by
  have hdb : db < w.heap.size := World.block_lt_of_cell? w _ c1
  have Hc := Lib.hid hc
  clear hc
  go_enter Tryz.func37, Tryz.ntmps37
  go_wp2_with fail
  go_region_with (go_at_call 73; refine (sclone_file db fb c D s w _ c1 Hc.out hcn hs' ?_ ?_).mono ?_; exact rfl; exact ⟨rfl, rfl, rfl⟩; rintro e w2 ⟨rfl, c1', w3, hrun, H3⟩)
  all_goals
    go_wp2
    go_ret
    exact ⟨rfl, H3.out⟩

set_option maxHeartbeats 400000 in
set_option maxRecDepth 100000 in
theorem file_old (db fb p : Nat) (s : ByteArray) (w : World) (c1 : w.cell? ⟨db, 1, none⟩ = some (.map (some fb)))
    (hl : (Instr.lookup 72 (.map (some fb)) (.string s) false).run Tryz.prog w = .ok (.pointer (some ⟨p, 0, none⟩)) w) :
    Calls Tryz.prog 37 #[.pointer (some ⟨db, 0, none⟩), .string s] w fun e w' => e = .returned (.pointer (some ⟨p, 0, none⟩)) ∧ w = w' := by
  go_enter Tryz.func37, Tryz.ntmps37
  go_wp2_with fail
  go_ret
  exact ⟨rfl, rfl⟩

end Go.Proofs.YtdpbnacabinlgaaGreatDoor
namespace Go.Proofs.YtdpbnacabinlgaaGreatDoor
open Go.RowKit Go.Lib Go.Maps

/-- The files with one put in its place, or taken out. -/
def setF {α : Type} (files : List UInt8 → Option α) (k : List UInt8) (o : Option α) : List UInt8 → Option α := fun k' => if k' = k then o else files k'
theorem setF_same {α : Type} (files : List UInt8 → Option α) (k : List UInt8) (o : Option α) : setF files k o k = o := by simp [setF]
theorem setF_other {α : Type} (files : List UInt8 → Option α) {k k' : List UInt8} (o : Option α) (h : k' ≠ k) : setF files k o k' = files k' := by simp [setF, h]
theorem setF_self {α : Type} (files : List UInt8 → Option α) {k : List UInt8} {o : Option α} (h : files k = o) : setF files k o = files := by
  funext k'
  by_cases e : k' = k
  · subst e; rw [setF_same, h]
  · rw [setF_other _ _ e]
theorem setF_twice {α : Type} (files : List UInt8 → Option α) (k : List UInt8) (o o' : Option α) : setF (setF files k o) k o' = setF files k o' := by
  funext k'
  by_cases e : k' = k <;> simp [setF, e]

/-- One block more has an owner. -/
def setO (own : Owner) (b : Nat) (x : Nat × List UInt8) : Owner := fun b' => if b' = b then some x else own b'
theorem setO_same (own : Owner) (b : Nat) (x : Nat × List UInt8) : setO own b x b = some x := by simp [setO]
theorem setO_other (own : Owner) {b b' : Nat} (x : Nat × List UInt8) (h : b' ≠ b) : setO own b x b' = own b' := by simp [setO, h]

section
variable {S : Prop} {w w' : World} {own own' : Owner} {db fb rb : Nat} {D D' E : DataW Unit} {n n' : Nat} {m : DevM}

theorem Dev.mono (h : Dev S w own db fb rb D E n m) (hn : n ≤ n') : Dev S w own db fb rb D E n' m := { h with cnt := Nat.le_trans h.cnt hn }

theorem Dev.setFile (h : Dev S w own db fb rb D E n m) {k : List UInt8} {f : FileM} {p : Nat} {dv : Value} (_hsz : w.heap.size ≤ w'.heap.size)
    (hkeep : ∀ b, own b ≠ none → b ≠ fb → own b ≠ some (3, k) → own b ≠ some (4, k) → w'.heap[b]? = w.heap[b]?)
    (hown : ∀ b, own b ≠ none → own' b = own b) (hold : ∀ b, w'.heap.size ≤ b → own' b = none)
    (hm : ∃ c, w'.ownsMap Tryz.prog 9 ptrR fb c D') (hcnt : Maps.size D' + Maps.size E ≤ n')
    (hat : ∀ z, D'.atKey (.string k) z = .lit (.int .u64 p)) (hhas : ∀ k', k' ≠ k → Maps.has D' (.string k') = Maps.has D (.string k')) (hoth : ∀ k' z, k' ≠ k → D'.atKey (.string k') z = D.atKey (.string k') z)
    (hfile : FileAt w' p dv f) (hp : own' p = some (3, k)) (hg : ∀ g, dv.ownBlock = some g → own' g = some (4, k)) :
    Dev S w' own' db fb rb D' E n' { m with files := setF m.files k (some f) } := by
  have keep : ∀ b t, own b = some t → t.1 ≠ 1 → (t.1 = 3 ∨ t.1 = 4 → t.2 ≠ k) → w'.heap[b]? = w.heap[b]? := fun b t hb h1 h2 => by
    refine hkeep b (by simp [hb]) (fun e => ?_) (fun e => ?_) (fun e => ?_)
    · rw [e, h.ofb] at hb; injection hb with hb; rw [← hb] at h1; exact h1 rfl
    · rw [hb] at e; injection e with e; rw [e] at h2; exact h2 (Or.inl rfl) rfl
    · rw [hb] at e; injection e with e; rw [e] at h2; exact h2 (Or.inr rfl) rfl
  have own_ : ∀ b t, own b = some t → own' b = some t := fun b t hb => (hown b (by simp [hb])).trans hb
  exact {
    blk := (keep db _ h.odb (by simp) (by simp)).trans h.blk
    fmap := hm
    rmap := let ⟨c, hc⟩ := h.rmap; ⟨c, ownsMap_of_block hc (keep rb _ h.orb (by simp) (by simp))⟩
    cnt := hcnt
    dom := fun k' => by
      by_cases e : k' = k
      · subst e
        simp only [setF_same, Option.isSome_some]
        exact Maps.has_true_of_atKey hat
      · simp only [setF_other _ _ e, hhas k' e]
        exact h.dom k'
    rdom := h.rdom
    rback := h.rback
    fil := fun k' f' hf' => by
      by_cases e : k' = k
      · subst e
        simp only [setF_same, Option.some.injEq] at hf'
        subst hf'
        exact ⟨p, dv, hat, hfile, hp, hg⟩
      · simp only [setF_other _ _ e] at hf'
        obtain ⟨p', dv', h1, h2, h3, h4⟩ := h.fil k' f' hf'
        exact ⟨p', dv', fun z => (hoth k' z e).trans (h1 z), h2.kept (keep p' _ h3 (by simp) (fun _ => e)) (fun g hg' => keep g _ (h4 g hg') (by simp) (fun _ => e)), own_ _ _ h3, fun g hg' => own_ _ _ (h4 g hg')⟩
    rem := fun k' d hd => by
      obtain ⟨dv', h1, h2, h3, h4⟩ := h.rem k' d hd
      exact ⟨dv', h1, ownsRow_of_block h2 (fun g hg' => keep g _ (h4 g hg') (by simp) (by simp)), h3, fun g hg' => own_ _ _ (h4 g hg')⟩
    odb := own_ _ _ h.odb
    ofb := own_ _ _ h.ofb
    orb := own_ _ _ h.orb
    old := hold
    rroom := h.rroom
    rfuse := h.rfuse
    racts := h.racts }

/-- What 'file' gives: a pointer to the file of a name, as it was, or new and empty. -/
theorem Dev.file (h : Dev S w own db fb rb D E n m) (hn : n ≤ 1099511627776) {s : ByteArray} (hs : s.size ≤ 281474976710656) :
    Calls Tryz.prog 37 #[.pointer (some ⟨db, 0, none⟩), .string s] w fun e w' => ∃ own' D' p dv f, e = .returned (.pointer (some ⟨p, 0, none⟩)) ∧ Dev S w' own' db fb rb D' E (n + 1) { m with files := setF m.files s.data.toList (some f) } ∧
      f = (m.files s.data.toList).getD ⟨[], 0, true⟩ ∧ (∀ z, D'.atKey (.string s.data.toList) z = .lit (.int .u64 p)) ∧ FileAt w' p dv f ∧ own' p = some (3, s.data.toList) ∧ (∀ g, dv.ownBlock = some g → own' g = some (4, s.data.toList)) ∧ Step own own' w w' := by
  have hs' : s.size ≤ maxLen := by unfold maxLen; omega
  cases hf : m.files s.data.toList with
  | some f =>
    obtain ⟨p, dv, hl, hat, hfa, hp, hg⟩ := h.look_some hs' hf
    refine (file_old db fb p s w h.c1 hl).mono ?_
    rintro e w' ⟨rfl, rfl⟩
    refine ⟨own, D, p, dv, f, rfl, ?_, rfl, hat, hfa, hp, hg, Step.refl _ _⟩
    rw [setF_self _ hf]
    exact h.mono (by omega)
  | none =>
    have hl := h.look_none hs' hf
    obtain ⟨c0, hc0⟩ := h.fmap
    -- the map's bound, as close as it is
    obtain ⟨c, hc, hcn⟩ : ∃ c, w.ownsMap Tryz.prog 9 ptrR fb c D ∧ c ≤ n := by
      have hcnt := h.cnt
      obtain ⟨es, clock, h1, h2, h3, h4⟩ := hc0
      refine ⟨es.size, ⟨es, clock, h1, h2, Nat.le_refl _, h4⟩, ?_⟩
      have : Maps.size D = es.size := by rw [h4]; simp [Maps.size, length_sorted]
      omega
    have hnone := h.old w.heap.size (Nat.le_refl _)
    refine (file_new db fb c D s w h.c1 hc (by unfold maxLen; omega) hs hl).mono ?_
    rintro e w' ⟨rfl, hm, hblk, hfr, hsz⟩
    have hfa : FileAt w' w.heap.size (.slice none 0 0) ⟨[], 0, true⟩ := ⟨hblk, World.ownsRow_nil _ _ _ _, Nat.le_refl _, Nat.zero_le _⟩
    have hnh : Maps.has D (.string s.data.toList) = false := by
      have := h.dom s.data.toList
      rw [hf] at this
      simpa using this
    have hmap := hc.isMap
    refine ⟨setO own w.heap.size (3, s.data.toList), D.put (.string s.data.toList) (.lit (.int .u64 (w.heap.size : Nat))), w.heap.size, .slice none 0 0, ⟨[], 0, true⟩, rfl, ?_, rfl, fun z => Maps.atKey_put_same (k := .string s.data.toList) hmap trivial _ _, hfa, setO_same _ _ _, fun g hg => by simp [Value.ownBlock] at hg, ?_⟩
    · refine h.setFile (p := w.heap.size) (dv := .slice none 0 0) (by omega) (fun b hb h1 _ _ => hfr.block b (h.lt hb) h1) (fun b hb => setO_other _ _ (fun e => by subst e; exact hb hnone)) (fun b hb => ?_) ⟨_, hm⟩ ?_ (fun z => Maps.atKey_put_same (k := .string s.data.toList) hmap trivial _ _) (fun k' e => Maps.has_put_other (fun e1 => e (by injection e1)) _) (fun k' z e => Maps.atKey_put_other (fun e1 => e (by injection e1)) _ _) hfa (setO_same _ _ _) (fun g hg => by simp [Value.ownBlock] at hg)
      · rw [setO_other _ _ (by omega)]
        exact h.old b (by omega)
      · have := h.cnt
        rw [Maps.size_put (hc.tidy lawS), hnh]
        simp
        omega
    · exact ⟨hfr.mono (fun b hb => by subst hb; simp [h.ofb]), fun b hb hb' => by rw [setO_other _ _ (by omega)]; exact hb'⟩

/-- Bytes that were handed in, in memory that the device doesn't own. -/
def BArg (w : World) (own : Owner) (bv : Value) (bs : List UInt8) : Prop :=
  (bv = .slice none 0 0 ∧ bs = []) ∨ ∃ A c, bv = .slice (some A) bs.length c ∧ (bs ≠ [] → own A.block = none) ∧ ∀ j x, bs[j]? = some x → w.cell? (A.add j) = some (.int .u8 x.toNat)

theorem add_block (a : Addr) (n : Nat) : (a.add n).block = a.block := by unfold Addr.add; split <;> rfl

theorem BArg.step {bv : Value} {bs : List UInt8} (h : BArg w own bv bs) (hs : Step own own' w w') : BArg w' own' bv bs := by
  rcases h with h | ⟨A, c, h1, h3, h4⟩
  · exact Or.inl h
  · refine Or.inr ⟨A, c, h1, fun hne => ?_, fun j x hx => ?_⟩
    · cases bs with
      | nil => exact absurd rfl hne
      | cons x l =>
        have h5 := World.block_lt_of_cell? _ _ (h4 0 x rfl)
        rw [add_block] at h5
        exact hs.own _ h5 (h3 hne)
    · have h5 := h4 j x hx
      have h6 := h3 (fun e => by subst e; simp at hx)
      rw [World.cell?_of_block (hs.fr.block _ (World.block_lt_of_cell? _ _ h5) (by rw [add_block]; simp [h6]))]
      exact h5

theorem BArg.len {bv : Value} {bs : List UInt8} (h : BArg w own bv bs) : ∃ a c, bv = .slice a bs.length c := by
  rcases h with ⟨rfl, rfl⟩ | ⟨A, c, h1, _⟩
  · exact ⟨_, _, rfl⟩
  · exact ⟨_, _, h1⟩

/-- The builtin append of such bytes onto a row that is owned. -/
theorem run_append_barg {bv : Value} {bs : List UInt8} (hb : BArg w own bv bs) {v : Value} {l : Nat} {xs : List Value} (hown : w.ownsRow 0 5 1 v l xs) (h63 : l + bs.length ≤ 140737488355328) (ty : TypeId) :
    ∃ v' w', (Builtin.append_ #[49, 49] ty #[v, bv]).run Tryz.prog w = .ok v' w' ∧ w'.ownsRow 0 5 1 v' (l + bs.length) (xs ++ byteCells bs) ∧ w.grownBy w' v.ownBlock ∧ (v'.ownBlock = v.ownBlock ∨ v'.ownBlock = some w.heap.size) := by
  obtain ⟨i0, hi, hz0, hz1, hz2⟩ := info_parts infoB
  rcases hb with ⟨rfl, rfl⟩ | ⟨A, c, rfl, _, hc⟩
  · refine ⟨v, w, run_append_owned_none w 0 49 ty 5 i0 1 Tryz.underlying49 hi v l xs hown, ?_, ⟨rfl, rfl, rfl, Nat.le_refl _, fun _ _ _ => rfl⟩, Or.inl rfl⟩
    simpa [byteCells] using hown
  · obtain ⟨v', w', h1, h2, h3, _, h5⟩ := run_append_own_at (P := Tryz.prog) w 0 49 ty 5 i0 (.int .u8 0) 1 1 Tryz.underlying49 hi hz0 hz1 hz2 rfl (by decide) v l xs hown A bs.length c (byteCells bs) (by simp [byteCells_length])
      (fun j u hu => by
        simp only [byteCells, List.getElem?_map, Option.map_eq_some_iff] at hu
        obtain ⟨x, hx, rfl⟩ := hu
        exact hc j x hx) (byteCells_one bs) (by unfold maxLen; omega) (by omega) (Nat.zero_le _)
    exact ⟨v', w', h1, h2, h3, h5⟩

theorem wpList_append_barg {ops : Array Oper} {rest : List Oper} {o : Oper} {a : Act} {Q : Exit → Act → World → Prop} (hgd : o.guard = none) (s x : Operand)
    (ho : o.op = .call { callee := .builtin .append, args := #[s, x], argTypes := #[49, 49] })
    {bv : Value} {bs : List UInt8} (hb : BArg w own bv bs) {v : Value} {l : Nat} {xs : List Value} (hown : w.ownsRow 0 5 1 v l xs) (h63 : l + bs.length ≤ 140737488355328)
    (hs : a.eval s = v) (hx : a.eval x = bv)
    (h : ∀ a' l' c' w', w'.ownsRow 0 5 1 (.slice a' l' c') (l + bs.length) (xs ++ byteCells bs) → w.grownBy w' v.ownBlock → ((Value.slice a' l' c').ownBlock = v.ownBlock ∨ (Value.slice a' l' c').ownBlock = some w.heap.size) → wpList Tryz.prog ops Q rest (a.put o.dst (.slice a' l' c')) w') :
    wpList Tryz.prog ops Q (o :: rest) a w := by
  refine wpList_plain hgd fun K hK => ?_
  obtain ⟨v', w', hr, h2, h3, h4⟩ := run_append_barg hb hown h63 o.type
  obtain ⟨a', l', c', rfl⟩ : ∃ a' l' c', v' = .slice a' l' c' := by
    rcases h2.2 with ⟨rfl, _⟩ | ⟨g, cap, cur, rfl, _⟩ <;> exact ⟨_, _, _, rfl⟩
  unfold Oper.wp execOp
  simp only [ho, resolve, invoke, builtin, Sem.run_bind, Sem.run_pure, Result.andThen_ok, List.map_toArray, List.map_cons, List.map_nil, hs, hx, hr]
  exact hK _ _ (h a' l' c' w' h2 h3 h4)

/-- The bytes of a file have grown, and its block has been told. -/
theorem Dev.appended (h : Dev S w own db fb rb D E n m) {k : List UInt8} {f : FileM} {p : Nat} {dv v' : Value} {bs : List UInt8} (hat : ∀ z, D.atKey (.string k) z = .lit (.int .u64 p))
    (hfa : FileAt w p dv f) (hp : own p = some (3, k)) (hg : ∀ g, dv.ownBlock = some g → own g = some (4, k))
    (hrow : w'.ownsRow 0 5 1 v' (f.data.length + bs.length) (byteCells f.data ++ byteCells bs)) (hgr : w.grownBy w' dv.ownBlock) (hv : v'.ownBlock = dv.ownBlock ∨ v'.ownBlock = some w.heap.size) (hlen : f.data.length + bs.length ≤ 262144) :
    ∃ own', Dev S (w'.setCell ⟨p, 0, none⟩ v') own' db fb rb D E n { m with files := setF m.files k (some ⟨f.data ++ bs, f.synced, f.fresh⟩) } ∧ Step own own' w (w'.setCell ⟨p, 0, none⟩ v') := by
  have hplt := h.lt (b := p) (by simp [hp])
  have hpn : dv.ownBlock ≠ some p := fun e => by have := hg p e; rw [hp] at this; simp at this
  have hvp : v'.ownBlock ≠ some p := fun e => by
    rcases hv with h1 | h1
    · exact hpn (h1 ▸ e)
    · rw [h1] at e; injection e with e; omega
  have hpblk : w'.heap[p]? = some (.cells #[dv, .int .i64 f.synced, .bool f.fresh] 78 (0, 0)) := (hgr.block p hplt (fun e => hpn e.symm)).trans hfa.1
  have hnone := h.old w.heap.size (Nat.le_refl _)
  -- who owns what behind it
  refine ⟨fun b => if v'.ownBlock = some b then some (4, k) else own b, ?_, ?_⟩
  · refine h.setFile (p := p) (dv := v') (by simpa [World.setCell] using hgr.size) (fun b hb _ h3 h4 => ?_) (fun b hb => ?_) (fun b hb => ?_) ?_ h.cnt hat (fun _ _ => rfl) (fun _ _ _ => rfl) ?_ ?_ (fun g hg' => by simp [hg'])
    · rw [Below.heap_setCell _ _ _ _ (fun e => h3 (by rw [e]; exact hp))]
      exact hgr.block b (h.lt hb) (fun e => h4 (hg b e.symm))
    · show (if v'.ownBlock = some b then some (4, k) else own b) = own b
      split
      · rename_i he
        rcases hv with h1 | h1
        · exact (hg b (h1 ▸ he)).symm
        · rw [h1] at he; injection he with he; subst he; exact absurd hnone hb
      · rfl
    · have hb' : w'.heap.size ≤ b := by simpa [World.setCell] using hb
      have hne : v'.ownBlock ≠ some b := fun e => by have := (hrow.lt b e).2; omega
      simp only [hne, if_false]
      exact h.old b (Nat.le_trans hgr.size hb')
    · obtain ⟨c, hc⟩ := h.fmap
      refine ⟨c, ownsMap_of_block hc ?_⟩
      rw [Below.heap_setCell _ _ _ _ (fun e => by have := h.ofb; rw [e] at this; change own p = _ at this; rw [hp] at this; simp at this)]
      exact hgr.block fb hc.lt (fun e => by have := hg fb e.symm; rw [h.ofb] at this; simp at this)
    · refine ⟨by rw [setCell_blk hpblk]; rfl, ?_, ?_, ?_⟩
      · have hlen' : (f.data ++ bs).length = f.data.length + bs.length := List.length_append
        rw [hlen', byteCells_append]
        exact ownsRow_of_block hrow (fun g hg' => Below.heap_setCell _ _ _ _ (fun e => hvp (by rw [hg', e])))
      · have := hfa.2.2.1; simp only [List.length_append]; omega
      · simp only [List.length_append]; omega
    · simp only [hvp, if_false]; exact hp
  · refine ⟨((Fr.refl _ _).grown hgr (fun g hg' _ => by simp [hg g hg'])).setCell _ _ (fun _ => by simp [hp]), fun b hb hb' => ?_⟩
    have hne : v'.ownBlock ≠ some b := fun e => by
      rcases hv with h1 | h1
      · have := hg b (h1 ▸ e); rw [hb'] at this; simp at this
      · rw [h1] at e; injection e with e; omega
    simp only [hne, if_false]
    exact hb'

end
end Go.Proofs.YtdpbnacabinlgaaGreatDoor
namespace Go.Proofs.YtdpbnacabinlgaaGreatDoor
open Go.RowKit Go.Lib Go.Maps

/-- What holds asks. -/
def holdsI (sz : Nat) (fo : Option FileM) (l : Nat) : Bool :=
  match fo with
  | none => decide (sz < 64) && decide (l ≤ 262144)
  | some f => decide (l + f.data.length ≤ 262144)

/-- What Append answers, and what the device is then; sz: how many files there are; used: how many bytes they have. -/
def appendM (m : DevM) (sz used : Nat) (k bs : List UInt8) : DevM × Int :=
  if (m.down || m.fuse == 0) = true then ({ m with down := true }, 13)
  else if nameOk k = false then ({ m with down := false }, 1)
  else if holdsI sz (m.files k) bs.length = false then ({ m with down := false }, 2)
  else if m.room < used + bs.length then ({ m with down := false }, 11)
  else
    let f := (m.files k).getD ⟨[], 0, true⟩
    ({ m with down := false, acts := m.acts + 1, fuse := fuseLess m.fuse, files := setF m.files k (some ⟨f.data ++ bs, f.synced, f.fresh⟩) }, 0)

section
variable {S : Prop} {w w' : World} {own own' : Owner} {db fb rb : Nat} {D D' E : DataW Unit} {n n' : Nat} {m : DevM}

theorem Dev.holds (h : Dev S w own db fb rb D E n m) {s : ByteArray} (hs : s.size ≤ maxLen) (l : Nat) :
    Calls Tryz.prog 105 #[.pointer (some ⟨db, 0, none⟩), .string s, .int .i64 l] w fun e w' => e = .returned (.bool (holdsI (Maps.size D) (m.files s.data.toList) l)) ∧ w = w' := by
  cases hf : m.files s.data.toList with
  | none =>
    have h1 := h.holds_none hs hf l
    have e1 : (decide ((Maps.size D : Int) < 64) && decide ((l : Int) ≤ 262144)) = holdsI (Maps.size D) none l := by
      simp only [holdsI]
      congr 1 <;> simp <;> omega
    rwa [e1] at h1
  | some f =>
    have h1 := h.holds_some hs hf l
    have e1 : decide ((l : Int) ≤ 262144 - f.data.length) = holdsI (Maps.size D) (some f) l := by
      simp only [holdsI, decide_eq_decide]
      omega
    rwa [e1] at h1

/-- Used, called in a world that is the device's but for a draw. -/
theorem Dev.used_at (h : Dev S w own db fb rb D E n m) (hn : n ≤ 1099511627776) {W : World} (hW : W.heap = w.heap) (hWo : W.os = w.os ∧ W.tape = w.tape ∧ W.output = w.output) :
    Calls Tryz.prog 57 #[.pointer (some ⟨db, 0, none⟩)] W fun e w' => e = .returned (.int .i64 (usedD D m.files)) ∧ Dev S w' own db fb rb D E n m ∧ Step own own w w' ∧ w'.cell? ⟨db, 0, none⟩ = some (.int .i64 m.room) := by
  have hWd : Dev S W own db fb rb D E n m := h.kept (by rw [hW]; exact Nat.le_refl _) (fun b _ => by rw [hW])
  refine (hWd.used hn).mono ?_
  rintro e w' ⟨rfl, hb⟩
  have hst : Step own own w w' := Step.of_fr ⟨hb.os.trans hWo.1, hb.tape.trans hWo.2.1, hb.output.trans hWo.2.2, by have := hb.size; rw [hW] at this; exact this, fun k hk _ => by rw [hb.block k (by rw [hW]; exact hk), hW]⟩
  have hd : Dev S w' own db fb rb D E n m := h.kept hst.fr.size (fun b hb' => by rw [hb.block b (by rw [hW]; exact h.lt hb'), hW])
  exact ⟨rfl, hd, hst, hd.c0⟩

theorem Dev.used_le (h : Dev S w own db fb rb D E n m) (hn : n ≤ 1099511627776) : usedD D m.files ≤ 288230376151711744 := by
  obtain ⟨c, hc⟩ := h.fmap
  obtain ⟨es, rfl, _, _⟩ := hc.entries lawS
  have hcnt : es.length ≤ n := by have := h.cnt; simp [Maps.size] at this; omega
  have h1 := sumL_le (flen m.files) 262144 (flen_le m.files) es
  have h2 : es.length * 262144 ≤ 1099511627776 * 262144 := Nat.mul_le_mul_right _ (Nat.le_trans hcnt hn)
  simp only [usedD, entsOf]
  omega

set_option maxHeartbeats 400000 in
set_option maxRecDepth 100000 in
theorem Dev.append_down (h : Dev S w own db fb rb D E n m) (hd : (m.down || m.fuse == 0) = true) (s : ByteArray) (bv : Value) :
    Calls Tryz.prog 91 #[.pointer (some ⟨db, 0, none⟩), .string s, bv] w fun e w' => e = .returned (.int .i64 13) ∧ Dev S w' own db fb rb D E n { m with down := true } ∧ Step own own w w' := by
  have hpl := h.powerless
  rw [hd] at hpl
  clear hd h
  go_enter Tryz.func91, Tryz.ntmps91
  go_wp2_with fail
  refine hpl.mono ?_
  rintro e w1 ⟨rfl, h1, st1⟩
  go_wp2_with fail
  go_ret
  exact ⟨rfl, h1, st1⟩

set_option maxHeartbeats 400000 in
set_option maxRecDepth 100000 in
theorem Dev.append_bad (h : Dev S w own db fb rb D E n m) (hd : (m.down || m.fuse == 0) = false) {s : ByteArray} (hs : s.size ≤ maxLen) (hn : nameOk s.data.toList = false) (bv : Value) :
    Calls Tryz.prog 91 #[.pointer (some ⟨db, 0, none⟩), .string s, bv] w fun e w' => e = .returned (.int .i64 1) ∧ Dev S w' own db fb rb D E n { m with down := false } ∧ Step own own w w' := by
  have hpl := h.powerless
  rw [hd] at hpl
  have hnm := fun w => isName_calls s w hs
  rw [hn] at hnm
  clear hd h hn
  go_enter Tryz.func91, Tryz.ntmps91
  go_wp2_with fail
  refine hpl.mono ?_
  rintro e w1 ⟨rfl, h1, st1⟩
  go_wp2_with fail
  refine (hnm _).mono ?_
  rintro e w2 ⟨rfl, rfl⟩
  go_wp2_with fail
  go_ret
  exact ⟨rfl, h1, st1⟩

set_option maxHeartbeats 400000 in
set_option maxRecDepth 100000 in
theorem Dev.append_many (h : Dev S w own db fb rb D E n m) (hd : (m.down || m.fuse == 0) = false) {s : ByteArray} (hs : s.size ≤ maxLen) (hn : nameOk s.data.toList = true) {a : Option Addr} {c l : Nat} (hh : holdsI (Maps.size D) (m.files s.data.toList) l = false) :
    Calls Tryz.prog 91 #[.pointer (some ⟨db, 0, none⟩), .string s, .slice a l c] w fun e w' => e = .returned (.int .i64 2) ∧ Dev S w' own db fb rb D E n { m with down := false } ∧ Step own own w w' := by
  have hpl := h.powerless
  rw [hd] at hpl
  have hnm := fun w => isName_calls s w hs
  rw [hn] at hnm
  have Hh := Lib.hid hh
  clear hd h hn hh
  go_enter Tryz.func91, Tryz.ntmps91
  go_wp2_with fail
  refine hpl.mono ?_
  rintro e w1 ⟨rfl, h1, st1⟩
  go_wp2_with fail
  refine (hnm _).mono ?_
  rintro e w2 ⟨rfl, rfl⟩
  have hho := h1.holds hs l
  rw [show holdsI (Maps.size D) _ l = false from Hh.out] at hho
  go_wp2_with fail
  refine hho.mono ?_
  rintro e w2 ⟨rfl, rfl⟩
  go_wp2_with fail
  go_ret
  exact ⟨rfl, h1, st1⟩

set_option maxHeartbeats 1000000 in
set_option maxRecDepth 100000 in
theorem Dev.append_full (h : Dev S w own db fb rb D E n m) (hcn : n ≤ 1099511627776) (hd : (m.down || m.fuse == 0) = false) {s : ByteArray} (hs : s.size ≤ maxLen) (hn : nameOk s.data.toList = true) {a : Option Addr} {c l : Nat} (hl : l ≤ 262144) (hh : holdsI (Maps.size D) (m.files s.data.toList) l = true)
    (hu : m.room < usedD D m.files + l) :
    Calls Tryz.prog 91 #[.pointer (some ⟨db, 0, none⟩), .string s, .slice a l c] w fun e w' => e = .returned (.int .i64 11) ∧ Dev S w' own db fb rb D E n { m with down := false } ∧ Step own own w w' := by
  have hpl := h.powerless
  rw [hd] at hpl
  have hnm := fun w => isName_calls s w hs
  rw [hn] at hnm
  have Hh := Lib.hid hh
  have hU := h.used_le hcn
  have hr1 := h.rroom.1
  have hr2 := h.rroom.2
  clear hd h hn hh
  obtain ⟨U, hUe⟩ : ∃ U, U = usedD D m.files := ⟨_, rfl⟩
  rw [← hUe] at hU hu
  have HU := Lib.hid hUe
  clear hUe
  go_enter Tryz.func91, Tryz.ntmps91
  go_wp2_with fail
  refine hpl.mono ?_
  rintro e w1 ⟨rfl, h1, st1⟩
  go_wp2_with fail
  refine (hnm _).mono ?_
  rintro e w2 ⟨rfl, rfl⟩
  have hho := h1.holds hs l
  rw [show holdsI (Maps.size D) _ l = true from Hh.out] at hho
  go_wp2_with fail
  refine hho.mono ?_
  rintro e w2 ⟨rfl, rfl⟩
  clear hho
  have c0 := h1.c0
  have hus := fun W hW hWo => h1.used_at hcn (W := W) hW hWo
  rw [show usedD D _ = U from HU.out.symm] at hus
  have hw : IntKind.i64.wrap ((U : Int) + (l : Int)) = (U : Int) + (l : Int) := IntWalk.i64_in _ (by omega)
  go_wp2_with fail
  go_region_with (go_at_call 57; refine (hus _ ?_ ?_).mono ?_; exact rfl; exact ⟨rfl, rfl, rfl⟩; rintro e w2 ⟨rfl, h2, st2, c0'⟩)
  all_goals
    clear hw
    go_wp2_with fail
    go_ret
    exact ⟨rfl, h2, st1.trans st2⟩

set_option maxHeartbeats 1000000 in
set_option maxRecDepth 100000 in
theorem Dev.append_ok (h : Dev S w own db fb rb D E n m) (hcn : n ≤ 1000000000000) (ha : m.acts ≤ 1000000000000) (hd : (m.down || m.fuse == 0) = false) {s : ByteArray} (hn : nameOk s.data.toList = true) {bv : Value} {bs : List UInt8} (hbv : BArg w own bv bs)
    (hh : holdsI (Maps.size D) (m.files s.data.toList) bs.length = true) (hu : usedD D m.files + bs.length ≤ m.room) :
    Calls Tryz.prog 91 #[.pointer (some ⟨db, 0, none⟩), .string s, bv] w fun e w' => e = .returned (.int .i64 0) ∧ ∃ own' D', Dev S w' own' db fb rb D' E (n + 1) { m with down := false, acts := m.acts + 1, fuse := fuseLess m.fuse, files := setF m.files s.data.toList (some ⟨((m.files s.data.toList).getD ⟨[], 0, true⟩).data ++ bs, ((m.files s.data.toList).getD ⟨[], 0, true⟩).synced, ((m.files s.data.toList).getD ⟨[], 0, true⟩).fresh⟩) } ∧ Step own own' w w' := by
  have hlen := (nameOk_len hn).2
  have hsz : s.size ≤ 20 := by simpa using hlen
  have hs : s.size ≤ maxLen := by unfold maxLen; omega
  have hs48 : Hid (s.size ≤ 281474976710656) := (by omega : s.size ≤ 281474976710656)
  have hl : ((m.files s.data.toList).getD ⟨[], 0, true⟩).data.length + bs.length ≤ 262144 := by
    cases hf : m.files s.data.toList with
    | none => simp [hf, holdsI] at hh; simpa using hh.2
    | some f => simp [hf, holdsI] at hh; simp; omega
  have hpl := h.powerless
  rw [hd] at hpl
  have hnm := fun w => isName_calls s w hs
  rw [hn] at hnm
  have Hh := Lib.hid hh
  have hU := h.used_le (by omega)
  have hr1 := h.rroom.1
  have hr2 := h.rroom.2
  clear hd h hn hh hlen
  obtain ⟨U, hUe⟩ : ∃ U, U = usedD D m.files := ⟨_, rfl⟩
  rw [← hUe] at hU hu
  have HU := Lib.hid hUe
  clear hUe
  obtain ⟨a, c, hbe⟩ := hbv.len
  have HB : Hid (BArg w own bv bs) := hbv
  have Hl := Lib.hid hl
  have hl2 : bs.length ≤ 262144 := by omega
  clear hbv hl
  subst hbe
  go_enter Tryz.func91, Tryz.ntmps91
  go_wp2_with fail
  refine hpl.mono ?_
  rintro e w1 ⟨rfl, h1, st1⟩
  go_wp2_with fail
  refine (hnm _).mono ?_
  rintro e w2 ⟨rfl, rfl⟩
  have hho := h1.holds hs bs.length
  rw [show holdsI (Maps.size D) _ bs.length = true from Hh.out] at hho
  go_wp2_with fail
  refine hho.mono ?_
  rintro e w2 ⟨rfl, rfl⟩
  clear hho
  have c0 := h1.c0
  have hus := fun W hW hWo => h1.used_at (by omega) (W := W) hW hWo
  rw [show usedD D _ = U from HU.out.symm] at hus
  have hw : IntKind.i64.wrap ((U : Int) + (bs.length : Int)) = (U : Int) + (bs.length : Int) := IntWalk.i64_in _ (by omega)
  go_wp2_with fail
  go_region_with (go_at_call 57; refine (hus _ ?_ ?_).mono ?_; exact rfl; exact ⟨rfl, rfl, rfl⟩; rintro e w2 ⟨rfl, h2, st2, c0'⟩)
  all_goals
    clear hw
    go_wp2_with fail
    refine (h2.file (by omega) hs48.out).mono ?_
    rintro e w3 ⟨own3, D3, p, dv, f, rfl, h3, hfe, hat, hfa, hp, hg, st3⟩
    have p0 : w3.cell? ⟨p, 0, none⟩ = some dv := cell_of_blk hfa.1 rfl
    have HB3 : Hid (BArg w3 own3 (.slice a bs.length c) bs) := ((HB.out.step st1).step st2).step st3
    have HF : Hid (f = (m.files s.data.toList).getD ⟨[], 0, true⟩ ∧ FileAt w3 p dv f ∧ own3 p = some (3, s.data.toList) ∧ ∀ g, dv.ownBlock = some g → own3 g = some (4, s.data.toList)) := ⟨hfe, hfa, hp, hg⟩
    have Hat := Lib.hid hat
    clear hfe hfa hp hg hat
    go_wp2_with (first
      | (at_builtin; refine wpList_append_barg rfl (.tmp 36) (.tmp 37) rfl HB3.out HF.out.2.1.2.1 (by have := Hl.out; rw [← HF.out.1] at this; omega) rfl rfl ?_; intro a' l' c' w4 hrow hgr hv; have p4 : w4.cell? ⟨p, 0, none⟩ = some dv := hgr.cell p0 (fun e => by have h5 := HF.out.2.2.2 p e.symm; rw [HF.out.2.2.1] at h5; simp at h5); have q4 : w4.frozen? ⟨p, 0, none⟩ = false := frozen_of_blk ((hgr.block p (h3.lt (by simp [HF.out.2.2.1])) (fun e => by have h5 := HF.out.2.2.2 p e.symm; rw [HF.out.2.2.1] at h5; simp at h5)).trans HF.out.2.1.1))
      | fail)
    obtain ⟨own5, h5, st5⟩ := h3.appended Hat.out HF.out.2.1 HF.out.2.2.1 HF.out.2.2.2 hrow hgr hv (by have := Hl.out; rw [← HF.out.1] at this; exact this)
    refine (h5.done (by simp only; omega)).mono ?_
    rintro e w6 ⟨rfl, h6, st6⟩
    go_wp2_with fail
    go_ret
    refine ⟨rfl, own5, D3, ?_, (((st1.trans st2).trans st3).trans st5).trans st6⟩
    have e1 := HF.out.1
    simp only [setF_twice] at h6
    rw [e1] at h6
    exact h6

end
end Go.Proofs.YtdpbnacabinlgaaGreatDoor
namespace Go.Proofs.YtdpbnacabinlgaaGreatDoor
open Go.RowKit Go.Lib Go.Maps

section
variable {S : Prop} {w w' : World} {own own' : Owner} {db fb rb : Nat} {D D' E E' : DataW Unit} {n n' : Nat} {m : DevM}

theorem Dev.append (h : Dev S w own db fb rb D E n m) (hcn : n ≤ 1000000000000) (ha : m.acts ≤ 1000000000000) {s : ByteArray} (hs : s.size ≤ maxLen) {bv : Value} {bs : List UInt8} (hbv : BArg w own bv bs) :
    Calls Tryz.prog 91 #[.pointer (some ⟨db, 0, none⟩), .string s, bv] w fun e w' => e = .returned (.int .i64 (appendM m (Maps.size D) (usedD D m.files) s.data.toList bs).2) ∧ ∃ own' D', Dev S w' own' db fb rb D' E (n + 1) (appendM m (Maps.size D) (usedD D m.files) s.data.toList bs).1 ∧ Step own own' w w' := by
  obtain ⟨a, c, hbe⟩ := hbv.len
  unfold appendM
  split
  · rename_i hd
    refine (h.append_down hd s bv).mono ?_
    rintro e w' ⟨rfl, h1, h2⟩
    exact ⟨rfl, own, D, h1.mono (by omega), h2⟩
  · rename_i hd
    have hd' : (m.down || m.fuse == 0) = false := by simpa using hd
    split
    · rename_i hn
      refine (h.append_bad hd' hs hn bv).mono ?_
      rintro e w' ⟨rfl, h1, h2⟩
      exact ⟨rfl, own, D, h1.mono (by omega), h2⟩
    · rename_i hn
      have hn' : nameOk s.data.toList = true := by simpa using hn
      split
      · rename_i hh
        subst hbe
        refine (h.append_many hd' hs hn' hh).mono ?_
        rintro e w' ⟨rfl, h1, h2⟩
        exact ⟨rfl, own, D, h1.mono (by omega), h2⟩
      · rename_i hh
        have hh' : holdsI (Maps.size D) (m.files s.data.toList) bs.length = true := by simpa using hh
        split
        · rename_i hu
          subst hbe
          have hl : bs.length ≤ 262144 := by
            cases hf : m.files s.data.toList with
            | none => simp [hf, holdsI] at hh'; exact hh'.2
            | some f => simp [hf, holdsI] at hh'; omega
          refine (h.append_full (by omega) hd' hs hn' hl hh' hu).mono ?_
          rintro e w' ⟨rfl, h1, h2⟩
          exact ⟨rfl, own, D, h1.mono (by omega), h2⟩
        · rename_i hu
          exact h.append_ok hcn ha hd' hn' hbv hh' (by omega)

/-- What Remove answers, and what the device is then. -/
def removeM (m : DevM) (k : List UInt8) : DevM × Int :=
  if (m.down || m.fuse == 0) = true then ({ m with down := true }, 13)
  else if nameOk k = false then ({ m with down := false }, 1)
  else match m.files k with
    | none => ({ m with down := false }, 12)
    | some f => ({ m with down := false, acts := m.acts + 1, fuse := fuseLess m.fuse, files := setF m.files k none, gone := if f.fresh then m.gone else setF m.gone k (some (f.data.take f.synced)) }, 0)

set_option maxHeartbeats 400000 in
set_option maxRecDepth 100000 in
theorem Dev.remove_down (h : Dev S w own db fb rb D E n m) (hd : (m.down || m.fuse == 0) = true) (s : ByteArray) :
    Calls Tryz.prog 79 #[.pointer (some ⟨db, 0, none⟩), .string s] w fun e w' => e = .returned (.int .i64 13) ∧ Dev S w' own db fb rb D E n { m with down := true } ∧ Step own own w w' := by
  have hpl := h.powerless
  rw [hd] at hpl
  clear hd h
  go_enter Tryz.func79, Tryz.ntmps79
  go_wp2_with fail
  refine hpl.mono ?_
  rintro e w1 ⟨rfl, h1, st1⟩
  go_wp2_with fail
  go_ret
  exact ⟨rfl, h1, st1⟩

set_option maxHeartbeats 400000 in
set_option maxRecDepth 100000 in
theorem Dev.remove_bad (h : Dev S w own db fb rb D E n m) (hd : (m.down || m.fuse == 0) = false) {s : ByteArray} (hs : s.size ≤ maxLen) (hn : nameOk s.data.toList = false) :
    Calls Tryz.prog 79 #[.pointer (some ⟨db, 0, none⟩), .string s] w fun e w' => e = .returned (.int .i64 1) ∧ Dev S w' own db fb rb D E n { m with down := false } ∧ Step own own w w' := by
  have hpl := h.powerless
  rw [hd] at hpl
  have hfd := fun w => find_bad ⟨db, 0, none⟩ s w hs hn
  clear hd h hn
  go_enter Tryz.func79, Tryz.ntmps79
  go_wp2_with fail
  refine hpl.mono ?_
  rintro e w1 ⟨rfl, h1, st1⟩
  go_wp2_with fail
  refine (hfd _).mono ?_
  rintro e w2 ⟨rfl, rfl⟩
  go_wp2_with fail
  go_ret
  exact ⟨rfl, h1, st1⟩

set_option maxHeartbeats 400000 in
set_option maxRecDepth 100000 in
theorem Dev.remove_none (h : Dev S w own db fb rb D E n m) (hd : (m.down || m.fuse == 0) = false) {s : ByteArray} (hs : s.size ≤ maxLen) (hn : nameOk s.data.toList = true) (hf : m.files s.data.toList = none) :
    Calls Tryz.prog 79 #[.pointer (some ⟨db, 0, none⟩), .string s] w fun e w' => e = .returned (.int .i64 12) ∧ Dev S w' own db fb rb D E n { m with down := false } ∧ Step own own w w' := by
  have hpl := h.powerless
  rw [hd] at hpl
  have Hn := Lib.hid hn
  have Hf := Lib.hid hf
  clear hd h hn hf
  go_enter Tryz.func79, Tryz.ntmps79
  go_wp2_with fail
  refine hpl.mono ?_
  rintro e w1 ⟨rfl, h1, st1⟩
  have hfd := h1.find_none hs Hn.out Hf.out
  go_wp2_with fail
  refine hfd.mono ?_
  rintro e w2 ⟨rfl, rfl⟩
  go_wp2_with fail
  go_ret
  exact ⟨rfl, h1, st1⟩

/-- The file of a name is taken out of the files' map. -/
theorem Dev.del (h : Dev S w own db fb rb D E n m) {k : List UInt8} (hf : (m.files k).isSome) {c : Nat} (hm : w'.ownsMap Tryz.prog 9 ptrR fb c (D.del (.string k))) (ht : w.mapTurned w' fb) :
    Dev S w' own db fb rb (D.del (.string k)) E n { m with files := setF m.files k none } ∧ Maps.size (D.del (.string k)) + 1 = Maps.size D := by
  have hg := ht.grown
  have hsz : Maps.size (D.del (.string k)) + 1 = Maps.size D := by
    obtain ⟨c0, hc0⟩ := h.fmap
    have h1 := Maps.size_del (k := .string k) (hc0.tidy lawS)
    have h2 := h.dom k
    rw [hf] at h2
    rw [h2] at h1
    simpa using h1
  have keep : ∀ b t, own b = some t → t.1 ≠ 1 → w'.heap[b]? = w.heap[b]? := fun b t hb h1 => by
    refine hg.block b (h.lt (by simp [hb])) (fun e => ?_)
    injection e with e
    rw [e, h.ofb] at hb
    injection hb with hb
    rw [← hb] at h1
    exact h1 rfl
  refine ⟨{
    blk := (keep db _ h.odb (by simp)).trans h.blk
    fmap := ⟨c, hm⟩
    rmap := let ⟨c, hc⟩ := h.rmap; ⟨c, ownsMap_of_block hc (keep rb _ h.orb (by simp))⟩
    cnt := by have := h.cnt; omega
    dom := fun k' => by
      by_cases e : k' = k
      · subst e
        simp only [setF_same, Option.isSome_none]
        exact Maps.has_del_same
      · simp only [setF_other _ _ e]
        rw [Maps.has_del_other (fun e1 => e (by injection e1))]
        exact h.dom k'
    rdom := h.rdom
    rback := h.rback
    fil := fun k' f' hf' => by
      by_cases e : k' = k
      · subst e
        simp only [setF_same] at hf'
        cases hf'
      · simp only [setF_other _ _ e] at hf'
        obtain ⟨p', dv', h1, h2, h3, h4⟩ := h.fil k' f' hf'
        exact ⟨p', dv', fun z => (Maps.atKey_del_other (fun e1 => e (by injection e1)) _).trans (h1 z), h2.kept (keep p' _ h3 (by simp)) (fun g hg' => keep g _ (h4 g hg') (by simp)), h3, h4⟩
    rem := fun k' d hd => by
      obtain ⟨dv', h1, h2, h3, h4⟩ := h.rem k' d hd
      exact ⟨dv', h1, ownsRow_of_block h2 (fun g hg' => keep g _ (h4 g hg') (by simp)), h3, h4⟩
    odb := h.odb
    ofb := h.ofb
    orb := h.orb
    old := fun b hb => h.old b (Nat.le_trans hg.size hb)
    rroom := h.rroom
    rfuse := h.rfuse
    racts := h.racts }, hsz⟩

/-- What was synced of a removed file is laid by. -/
theorem Dev.putGone (h : Dev S w own db fb rb D E n m) {k : List UInt8} {d : List UInt8} {dv : Value} (hsz : w.heap.size ≤ w'.heap.size)
    (hkeep : ∀ b, own b ≠ none → b ≠ rb → w'.heap[b]? = w.heap[b]?) {c : Nat} (hm : w'.ownsMap Tryz.prog 9 slR rb c (E.put (.string k) (slD dv)))
    (hrow : w'.ownsRow w.heap.size 5 1 dv d.length (byteCells d)) (hl : d.length ≤ 262144) :
    Dev S w' (fun b => if dv.ownBlock = some b then some (5, k) else own b) db fb rb D (E.put (.string k) (slD dv)) (n + 1) { m with gone := setF m.gone k (some d) } := by
  obtain ⟨c0, hc0⟩ := h.rmap
  have hmap := hc0.isMap
  have own_ : ∀ b t, own b = some t → (if dv.ownBlock = some b then some (5, k) else own b) = some t := fun b t hb => by
    have hlt := h.lt (b := b) (by simp [hb])
    rw [if_neg (fun e => by have := (hrow.lt b e).1; omega)]
    exact hb
  have keep : ∀ b t, own b = some t → t.1 ≠ 2 → w'.heap[b]? = w.heap[b]? := fun b t hb h1 => by
    refine hkeep b (by simp [hb]) (fun e => ?_)
    rw [e, h.orb] at hb
    injection hb with hb
    rw [← hb] at h1
    exact h1 rfl
  exact {
    blk := (keep db _ h.odb (by simp)).trans h.blk
    fmap := let ⟨c, hc⟩ := h.fmap; ⟨c, ownsMap_of_block hc (keep fb _ h.ofb (by simp))⟩
    rmap := ⟨c, hm⟩
    cnt := by
      have := h.cnt
      have h2 := Maps.size_put (k := .string k) (hc0.tidy lawS) (slD dv)
      split at h2 <;> omega
    dom := h.dom
    rdom := fun k' hk' => by
      by_cases e : k' = k
      · subst e
        exact Maps.has_put_same (k := .string k') hmap trivial _
      · simp only [setF_other _ _ e] at hk'
        rw [Maps.has_put_other (fun e1 => e (by injection e1))]
        exact h.rdom k' hk'
    rback := fun hS k' hk' => by
      by_cases e : k' = k
      · subst e
        simp only [setF_same, Option.isSome_some]
      · simp only [setF_other _ _ e]
        rw [Maps.has_put_other (fun e1 => e (by injection e1))] at hk'
        exact h.rback hS k' hk'
    fil := fun k' f' hf' => by
      obtain ⟨p', dv', h1, h2, h3, h4⟩ := h.fil k' f' hf'
      exact ⟨p', dv', h1, h2.kept (keep p' _ h3 (by simp)) (fun g hg' => keep g _ (h4 g hg') (by simp)), own_ _ _ h3, fun g hg' => own_ _ _ (h4 g hg')⟩
    rem := fun k' d' hd => by
      by_cases e : k' = k
      · subst e
        simp only [setF_same, Option.some.injEq] at hd
        subst hd
        exact ⟨dv, fun z => Maps.atKey_put_same (k := .string k') hmap trivial _ _, ownsRow_base hrow (Nat.zero_le _), hl, fun g hg' => by simp [hg']⟩
      · simp only [setF_other _ _ e] at hd
        obtain ⟨dv', h1, h2, h3, h4⟩ := h.rem k' d' hd
        exact ⟨dv', fun z => (Maps.atKey_put_other (fun e1 => e (by injection e1)) _ _).trans (h1 z), ownsRow_of_block h2 (fun g hg' => keep g _ (h4 g hg') (by simp)), h3, fun g hg' => own_ _ _ (h4 g hg')⟩
    odb := own_ _ _ h.odb
    ofb := own_ _ _ h.ofb
    orb := own_ _ _ h.orb
    old := fun b hb => by
      show (if dv.ownBlock = some b then some (5, k) else own b) = none
      rw [if_neg (fun e => by have := (hrow.lt b e).2; omega)]
      exact h.old b (Nat.le_trans hsz hb)
    rroom := h.rroom
    rfuse := h.rfuse
    racts := h.racts }

end
end Go.Proofs.YtdpbnacabinlgaaGreatDoor
namespace Go.Proofs.YtdpbnacabinlgaaGreatDoor
open Go.RowKit Go.Lib Go.Maps

section
variable {S : Prop} {w w' : World} {own own' : Owner} {db fb rb : Nat} {D D' E E' : DataW Unit} {n n' : Nat} {m : DevM}

/-- What stays while the copies of a removed file are made: three cells, and all that was there. -/
def GoneS (w0 : World) (db rb p : Nat) (a : Option Addr) (l c sy : Nat) (W : World) : Prop :=
  W.cell? ⟨db, 2, none⟩ = some (.map (some rb)) ∧ W.cell? ⟨p, 0, none⟩ = some (.slice a l c) ∧ W.cell? ⟨p, 1, none⟩ = some (.int .i64 sy) ∧ Hid (Below w0.heap.size w0 W)

theorem GoneS.of_below {w0 W W' : World} {db rb p : Nat} {a : Option Addr} {l c sy : Nat} (h : GoneS w0 db rb p a l c sy W) (hdb : db < w0.heap.size) (hp : p < w0.heap.size) (hb : Below W.heap.size W W') : GoneS w0 db rb p a l c sy W' := by
  have hsz := h.2.2.2.out.size
  exact ⟨(hb.cell (p := ⟨db, 2, none⟩) (by simp; omega)).trans h.1, (hb.cell (p := ⟨p, 0, none⟩) (by simp; omega)).trans h.2.1, (hb.cell (p := ⟨p, 1, none⟩) (by simp; omega)).trans h.2.2.1, h.2.2.2.out.trans (hb.mono hsz)⟩

/-- The end of the statement that lays a removed file by: the device has what was synced of it. -/
def GonePost (S : Prop) (w0 : World) (own : Owner) (db fb rb : Nat) (D _E : DataW Unit) (n : Nat) (m : DevM) (k d : List UInt8) (W : World) : Prop :=
  ∃ own' E', Dev S W own' db fb rb D E' (n + 1) { m with gone := setF m.gone k (some d) } ∧ Step own own' w0 W

theorem gone_store (h : Dev S w own db fb rb D E n m) (hn : n < 2000000000000) {s : ByteArray} (hs : s.size ≤ maxLen) {W : World} (hb : Below w.heap.size w W) {d : List UInt8} {dv : Value} (hrow : W.ownsRow w.heap.size 5 1 dv d.length (byteCells d)) (hl : d.length ≤ 262144) :
    ∃ w5, (Instr.mapUpdate 73 (.map (some rb)) (.string s) dv).run Tryz.prog W = .ok () w5 ∧ Hid (GonePost S w own db fb rb D E n m s.data.toList d w5) ∧ ∀ q v, q.block ≠ rb → W.cell? q = some v → w5.cell? q = some v := by
  obtain ⟨c0, hc0⟩ := h.rmap
  obtain ⟨c, hc, hcn⟩ : ∃ c, w.ownsMap Tryz.prog 9 slR rb c E ∧ c ≤ n := by
    have hcnt := h.cnt
    obtain ⟨es, clock, h1, h2, h3, h4⟩ := hc0
    refine ⟨es.size, ⟨es, clock, h1, h2, Nat.le_refl _, h4⟩, ?_⟩
    have : Maps.size E = es.size := by rw [h4]; simp [Maps.size, length_sorted]
    omega
  obtain ⟨w5, hrun, hm, ht⟩ := (ownsMap_of_block hc (hb.block rb hc.lt)).update lawS Tryz.underlying73 (by unfold maxLen; omega) (val := dv) (WideMaps.keyOf_string_mk Tryz.underlying9 hs) (ownsRow_slR hrow)
  have hrow5 : w5.ownsRow w.heap.size 5 1 dv d.length (byteCells d) := ownsRow_of_block hrow (fun g hg => ht.block g (hrow.lt g hg).2 (fun e => by injection e with e; have := (hrow.lt g hg).1; have := hc.lt; omega))
  refine ⟨w5, hrun, ⟨_, _, h.putGone (Nat.le_trans hb.size ht.size) (fun b hb' hne => ?_) hm hrow5 hl, ⟨⟨ht.os.trans hb.os, ht.tape.trans hb.tape, ht.output.trans hb.output, Nat.le_trans hb.size ht.size, fun i hi hn' => ?_⟩, fun b hb1 hb2 => ?_⟩⟩, fun q v hq hv => ht.cell hv (fun e => hq (by injection e))⟩
  · rw [ht.block b (Nat.lt_of_lt_of_le (h.lt hb') hb.size) (fun e => hne (by injection e))]
    exact hb.block b (h.lt hb')
  · rw [ht.block i (Nat.lt_of_lt_of_le hi hb.size) (fun e => hn' (by injection e with e; subst e; simp [h.orb]))]
    exact hb.block i hi
  · rw [if_neg (fun e => by have := (hrow.lt b e).1; omega)]
    exact hb2

theorem take_row {a : Option Addr} {l c k : Nat} {d : List UInt8} (h : w.ownsRow 0 5 1 (.slice a l c) d.length (byteCells d)) (hk : k ≤ d.length) :
    l = d.length ∧ l ≤ c ∧ w.ownsRow 0 5 1 (.slice a k c) (d.take k).length (byteCells (d.take k)) := by
  have hlk : (d.take k).length = k := by simp; omega
  rcases h.2 with ⟨e, h0⟩ | ⟨g, cap, cur, e, h1, h2, h3, h4, h5, h6⟩
  · simp only [Value.slice.injEq] at e
    obtain ⟨rfl, rfl, rfl⟩ := e
    obtain rfl : k = 0 := by omega
    exact ⟨h0.symm, Nat.le_refl _, by simp [byteCells], Or.inl ⟨rfl, by simp⟩⟩
  · simp only [Value.slice.injEq] at e
    obtain ⟨rfl, rfl, rfl⟩ := e
    refine ⟨rfl, h3, by rw [byteCells_length, Nat.mul_one], Or.inr ⟨g, c, cur, by rw [hlk], h1, h2, by omega, h4, h5, ?_⟩⟩
    rw [hlk, ← byteCells_take, ← h6, List.take_take]
    congr 1
    omega

set_option maxHeartbeats 1000000 in
set_option maxRecDepth 100000 in
theorem Dev.remove_fresh (h : Dev S w own db fb rb D E n m) (_hcn : n ≤ 1000000000000) (ha : m.acts ≤ 1000000000000) (hd : (m.down || m.fuse == 0) = false) {s : ByteArray} (hs : s.size ≤ maxLen) (hn : nameOk s.data.toList = true) {f : FileM} (hf : m.files s.data.toList = some f) (hfr : f.fresh = true) :
    Calls Tryz.prog 79 #[.pointer (some ⟨db, 0, none⟩), .string s] w fun e w' => e = .returned (.int .i64 0) ∧ ∃ own' D' E', Dev S w' own' db fb rb D' E' n { m with down := false, acts := m.acts + 1, fuse := fuseLess m.fuse, files := setF m.files s.data.toList none } ∧ Step own own' w w' := by
  have hpl := h.powerless
  rw [hd] at hpl
  have Hn := Lib.hid hn
  have Hf := Lib.hid hf
  have Hfr := Lib.hid hfr
  have hkey := WideMaps.keyOf_string_mk Tryz.underlying9 hs
  clear hd h hn hf hfr
  go_enter Tryz.func79, Tryz.ntmps79
  go_wp2_with fail
  refine hpl.mono ?_
  rintro e w1 ⟨rfl, h1, st1⟩
  obtain ⟨p, dv, hl, hat, hfa, hp, hg⟩ := h1.look_some hs Hf.out
  have hfd := h1.find_some hs Hn.out hl
  have p2 : w1.cell? ⟨p, 2, none⟩ = some (.bool true) := by rw [← Hfr.out]; exact cell_of_blk hfa.1 rfl
  have c1 := h1.c1
  obtain ⟨c, hc⟩ := h1.fmap
  have HH : Hid (Dev S w1 own db fb rb D E n { m with down := false }) := h1
  clear hl hat hfa hp hg h1
  go_wp2_with fail
  refine hfd.mono ?_
  rintro e w2 ⟨rfl, rfl⟩
  go_wp2_with (first
    | (at_delete; refine wpList_delete_own _ rfl _ _ 72 9 rfl 71 lawS Tryz.underlying72 _ fb c D rfl hc _ _ rfl hkey ?_; intro w3 hown3 hturn3)
    | fail)
  have h3 := (HH.out.del (k := s.data.toList) (by simp [Hf.out]) hown3 hturn3).1
  have st3 : Step own own w1 w3 := Step.of_fr ((Fr.refl _ _).grown hturn3.grown (fun k hk _ => by injection hk with hk; subst hk; simp [HH.out.ofb]))
  refine (h3.done (by simp only; omega)).mono ?_
  rintro e w6 ⟨rfl, h6, st6⟩
  go_wp2_with fail
  go_ret
  exact ⟨rfl, own, _, _, h6, (st1.trans st3).trans st6⟩

set_option maxHeartbeats 2000000 in
set_option maxRecDepth 100000 in
theorem Dev.remove_old (h : Dev S w own db fb rb D E n m) (hcn : n ≤ 1000000000000) (ha : m.acts ≤ 1000000000000) (hd : (m.down || m.fuse == 0) = false) {s : ByteArray} (hs : s.size ≤ maxLen) (hn : nameOk s.data.toList = true) {f : FileM} (hf : m.files s.data.toList = some f) (hfr : f.fresh = false) :
    Calls Tryz.prog 79 #[.pointer (some ⟨db, 0, none⟩), .string s] w fun e w' => e = .returned (.int .i64 0) ∧ ∃ own' D' E', Dev S w' own' db fb rb D' E' n { m with down := false, acts := m.acts + 1, fuse := fuseLess m.fuse, files := setF m.files s.data.toList none, gone := setF m.gone s.data.toList (some (f.data.take f.synced)) } ∧ Step own own' w w' := by
  have hsz : s.size ≤ 281474976710656 := by have := (nameOk_len hn).2; simp at this; omega
  have hpl := h.powerless
  rw [hd] at hpl
  have Hn := Lib.hid hn
  have Hf := Lib.hid hf
  have Hfr := Lib.hid hfr
  have hkey := WideMaps.keyOf_string_mk Tryz.underlying9 hs
  clear hd h hn hf hfr
  go_enter Tryz.func79, Tryz.ntmps79
  go_wp2_with fail
  refine hpl.mono ?_
  rintro e w1 ⟨rfl, h1, st1⟩
  obtain ⟨p, dv, hl, hat, hfa, hp, hg⟩ := h1.look_some hs Hf.out
  have hfd := h1.find_some hs Hn.out hl
  obtain ⟨a, l, c', rfl⟩ : ∃ a l c, dv = .slice a l c := by
    rcases hfa.2.1.2 with ⟨rfl, _⟩ | ⟨g, cap, cur, rfl, _⟩ <;> exact ⟨_, _, _, rfl⟩
  obtain ⟨hll, hlc, hrow⟩ := take_row (k := f.synced) hfa.2.1 hfa.2.2.1
  have hbc := fun (W : World) (hb : Below w1.heap.size w1 W) => bclone_row (w := W) (ownsRow_of_block hrow (fun g hg => hb.block g (hrow.lt g hg).2)) (by have := hfa.2.2.2; have := hfa.2.2.1; have := List.length_take_le f.synced f.data; omega)
  have p2 : w1.cell? ⟨p, 2, none⟩ = some (.bool false) := by rw [← Hfr.out]; exact cell_of_blk hfa.1 rfl
  have hpw := h1.lt (b := p) (by simp [hp])
  have hdw := h1.lt (b := db) (by simp [h1.odb])
  have S0 : GoneS w1 db rb p a l c' f.synced w1.drew := ⟨h1.c2, cell_of_blk hfa.1 rfl, cell_of_blk hfa.1 rfl, (Below.refl _ _).drew⟩
  have hsy0 : (0 : Int) ≤ (f.synced : Int) := Int.natCast_nonneg _
  have hsy1 : (f.synced : Int) ≤ (c' : Int) := by have := hfa.2.2.1; omega
  have hfin := fun (W : World) (hb : Below w1.heap.size w1 W) (v : Value) (hr : W.ownsRow w1.heap.size 5 1 v (f.data.take f.synced).length (byteCells (f.data.take f.synced))) => gone_store h1 (by omega) hs hb hr (by have := hfa.2.2.2; have := hfa.2.2.1; have := List.length_take_le f.synced f.data; omega)
  have hrbd : db ≠ rb := fun e => by have h5 := h1.orb; rw [← e, h1.odb] at h5; simp at h5
  have hrbp : p ≠ rb := fun e => by have h5 := h1.orb; rw [← e, hp] at h5; simp at h5
  have Hfin : Hid (∀ (W : World) (v : Value), GoneS w1 db rb p a l c' f.synced W → W.ownsRow w1.heap.size 5 1 v (f.data.take f.synced).length (byteCells (f.data.take f.synced)) →
      ∃ w5, (Instr.mapUpdate 73 (.map (some rb)) (.string s) v).run Tryz.prog W = .ok () w5 ∧ Hid (GonePost S w1 own db fb rb D E n { m with down := false } s.data.toList (f.data.take f.synced) w5) ∧ w5.cell? ⟨db, 2, none⟩ = some (.map (some rb)) ∧ w5.cell? ⟨p, 0, none⟩ = some (.slice a l c') ∧ w5.cell? ⟨p, 1, none⟩ = some (.int .i64 f.synced)) := fun W v hS hr => by
    obtain ⟨w5, h5, h6, h7⟩ := hfin W hS.2.2.2.out v hr
    exact ⟨w5, h5, h6, h7 _ _ hrbd hS.1, h7 _ _ hrbp hS.2.1, h7 _ _ hrbp hS.2.2.1⟩
  -- the two calls
  have Hsc : Hid (∀ W, GoneS w1 db rb p a l c' f.synced W → Calls Tryz.prog 73 #[.string s] W fun e w2 => e = .returned (.string s) ∧ GoneS w1 db rb p a l c' f.synced w2 ∧ Hid (Below W.heap.size W w2)) := fun W hW => (sclone_calls s W hsz).mono (by
    rintro e w2 ⟨rfl, hb⟩
    exact ⟨rfl, hW.of_below hdw hpw hb, hb⟩)
  have Hbc : Hid (∀ W, GoneS w1 db rb p a l c' f.synced W → Calls Tryz.prog 36 #[.slice a f.synced c'] W fun e w2 => ∃ a' l' c'', e = .returned (.slice a' l' c'') ∧ GoneS w1 db rb p a l c' f.synced w2 ∧ Hid (w2.ownsRow w1.heap.size 5 1 (.slice a' l' c'') (f.data.take f.synced).length (byteCells (f.data.take f.synced)))) := fun W hW => (hbc W hW.2.2.2.out).mono (by
    rintro e w2 ⟨v, rfl, hr, hb⟩
    obtain ⟨a', l', c'', rfl⟩ : ∃ a l c, v = .slice a l c := by
      rcases hr.2 with ⟨rfl, _⟩ | ⟨g, cap, cur, rfl, _⟩ <;> exact ⟨_, _, _, rfl⟩
    exact ⟨_, _, _, rfl, hW.of_below hdw hpw hb, ownsRow_base hr hW.2.2.2.out.size⟩)
  obtain ⟨k2, k0, k1, kb⟩ := S0
  have HH : Hid (Dev S w1 own db fb rb D E n { m with down := false }) := h1
  generalize hsyE : f.synced = sy at *
  have Hsy := Lib.hid hsyE
  clear hsyE
  clear hfin hl hat hfa hp hg h1 hrow hbc hll hlc
  go_wp2_with fail
  refine hfd.mono ?_
  rintro e w2 ⟨rfl, rfl⟩
  go_wp2_with fail
  go_region_held3 (fun W => W.cell? ⟨db, 2, none⟩ = some (.map (some rb)) ∧ W.cell? ⟨p, 0, none⟩ = some (.slice a l c') ∧ W.cell? ⟨p, 1, none⟩ = some (.int .i64 sy))
    ((refine ⟨?_, ?_, ?_⟩ <;> assumption))
    (first
      | (go_at_call 73; revert hq; intro hq; refine (Hsc.out _ ?_).mono ?_; (refine ⟨?_, ?_, ?_, ?_⟩ <;> assumption); rintro e w2 ⟨rfl, ⟨r2, r0, r1, rb'⟩, rbl⟩; have hq2 := ownsRow_of_block hq.out (fun g hg => rbl.out.block g (hq.out.lt g hg).2); obtain ⟨w5, hrun, hpost, t2, t0, t1⟩ := Hfin.out _ _ ⟨r2, r0, r1, rb'⟩ hq2; clear hq2)
      | (go_at_call 73; refine (Hsc.out _ ?_).mono ?_; (refine ⟨?_, ?_, ?_, ?_⟩ <;> assumption); rintro e w2 ⟨rfl, ⟨r2, r0, r1, rb'⟩, rbl⟩)
      | (go_at_call 36; refine (Hbc.out _ ?_).mono ?_; (refine ⟨?_, ?_, ?_, ?_⟩ <;> assumption); rintro e w2 ⟨a', l', c'', rfl, ⟨q2, q0, q1, qb⟩, hq⟩; obtain ⟨w5, hrun, hpost, t2, t0, t1⟩ := Hfin.out _ _ ⟨q2, q0, q1, qb⟩ hq.out))
  all_goals
    obtain ⟨own5, E5, h5, st5⟩ := hpost.out
    have c1 := h5.c1
    obtain ⟨c, hc⟩ := h5.fmap
    have H5 : Hid (Dev S w5 own5 db fb rb D E5 (n + 1) _) := h5
    clear t2 t0 t1 hrun hq k2 k0 k1 h5
    go_wp2_with (first
      | (at_delete; refine wpList_delete_own _ rfl _ _ 72 9 rfl 71 lawS Tryz.underlying72 _ fb c D rfl hc _ _ rfl hkey ?_; intro w3 hown3 hturn3)
      | fail)
    obtain ⟨h3, hsz3⟩ := H5.out.del (k := s.data.toList) (by simp [Hf.out]) hown3 hturn3
    have h3' := h3.mono (n' := n + 1) (Nat.le_refl _)
    have st3 : Step own5 own5 w5 w3 := Step.of_fr ((Fr.refl _ _).grown hturn3.grown (fun k hk _ => by injection hk with hk; subst hk; simp [H5.out.ofb]))
    refine (h3.done (by simp only; omega)).mono ?_
    rintro e w6 ⟨rfl, h6, st6⟩
    go_wp2_with fail
    go_ret
    rw [← Hsy.out] at h6
    refine ⟨rfl, own5, _, _, { h6 with cnt := ?_ }, ((st1.trans st5).trans st3).trans st6⟩
    have := H5.out.cnt
    omega

/-- Remove in one word. -/
theorem Dev.remove (h : Dev S w own db fb rb D E n m) (hcn : n ≤ 1000000000000) (ha : m.acts ≤ 1000000000000) {s : ByteArray} (hs : s.size ≤ maxLen) :
    Calls Tryz.prog 79 #[.pointer (some ⟨db, 0, none⟩), .string s] w fun e w' => e = .returned (.int .i64 (removeM m s.data.toList).2) ∧ ∃ own' D' E', Dev S w' own' db fb rb D' E' n (removeM m s.data.toList).1 ∧ Step own own' w w' := by
  unfold removeM
  split
  · rename_i hd
    refine (h.remove_down hd s).mono ?_
    rintro e w' ⟨rfl, h1, h2⟩
    exact ⟨rfl, own, D, E, h1, h2⟩
  · rename_i hd
    have hd' : (m.down || m.fuse == 0) = false := by simpa using hd
    split
    · rename_i hn
      refine (h.remove_bad hd' hs hn).mono ?_
      rintro e w' ⟨rfl, h1, h2⟩
      exact ⟨rfl, own, D, E, h1, h2⟩
    · rename_i hn
      have hn' : nameOk s.data.toList = true := by simpa using hn
      cases hf : m.files s.data.toList with
      | none =>
        refine (h.remove_none hd' hs hn' hf).mono ?_
        rintro e w' ⟨rfl, h1, h2⟩
        exact ⟨rfl, own, D, E, h1, h2⟩
      | some f =>
        cases hfr : f.fresh with
        | true => simpa [hfr] using h.remove_fresh hcn ha hd' hs hn' hf hfr
        | false => simpa [hfr] using h.remove_old hcn ha hd' hs hn' hf hfr

end
end Go.Proofs.YtdpbnacabinlgaaGreatDoor
