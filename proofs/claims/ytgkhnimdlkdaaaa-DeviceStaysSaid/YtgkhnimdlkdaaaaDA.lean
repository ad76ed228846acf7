/- Append of a device in one word; Remove of a device. -/
import Derived.Test.YtgkhnimdlkdaaaaD9
import Derived.Maps.OwnSet
namespace Go.Proofs.Ytgkhnimdlkdaaaa
open Go.RowKit Go.Lib Go.Maps

section
variable {S : Prop} {w w' : World} {own own' : Owner} {db fb rb : Nat} {D D' E E' : DataW Unit} {n n' : Nat} {m : DevM}

theorem Dev.append (h : Dev S w own db fb rb D E n m) (hcn : n ≤ 1000000000000) (ha : m.acts ≤ 1000000000000) {s : ByteArray} (hs : s.size ≤ maxLen) {bv : Value} {bs : List UInt8} (hbv : BArg w own bv bs) :
    Calls Try.prog 16 #[.pointer (some ⟨db, 0, none⟩), .string s, bv] w fun e w' => e = .returned (.int .i64 (appendM m (Maps.size D) (usedD D m.files) s.data.toList bs).2) ∧ ∃ own' D', Dev S w' own' db fb rb D' E (n + 1) (appendM m (Maps.size D) (usedD D m.files) s.data.toList bs).1 ∧ Step own own' w w' := by
  obtain ⟨a, c, hbe⟩ := hbv.len
  unfold appendM
  split
  · rename_i hd
    refine (h.append_down hd s bv).mono ?_
    rintro e w' ⟨rfl, h1, h2⟩
    exact ⟨rfl, own, D, h1.mono (by omega), h2⟩
  · rename_i hd
    have hd' : (m.down || m.fuse == 0) = false := by simpa using hd
    split
    · rename_i hn
      refine (h.append_bad hd' hs hn bv).mono ?_
      rintro e w' ⟨rfl, h1, h2⟩
      exact ⟨rfl, own, D, h1.mono (by omega), h2⟩
    · rename_i hn
      have hn' : nameOk s.data.toList = true := by simpa using hn
      split
      · rename_i hh
        subst hbe
        refine (h.append_many hd' hs hn' hh).mono ?_
        rintro e w' ⟨rfl, h1, h2⟩
        exact ⟨rfl, own, D, h1.mono (by omega), h2⟩
      · rename_i hh
        have hh' : holdsI (Maps.size D) (m.files s.data.toList) bs.length = true := by simpa using hh
        split
        · rename_i hu
          subst hbe
          have hl : bs.length ≤ 262144 := by
            cases hf : m.files s.data.toList with
            | none => simp [hf, holdsI] at hh'; exact hh'.2
            | some f => simp [hf, holdsI] at hh'; omega
          refine (h.append_full (by omega) hd' hs hn' hl hh' hu).mono ?_
          rintro e w' ⟨rfl, h1, h2⟩
          exact ⟨rfl, own, D, h1.mono (by omega), h2⟩
        · rename_i hu
          exact h.append_ok hcn ha hd' hn' hbv hh' (by omega)

/-- What Remove answers, and what the device is then. -/
def removeM (m : DevM) (k : List UInt8) : DevM × Int :=
  if (m.down || m.fuse == 0) = true then ({ m with down := true }, 13)
  else if nameOk k = false then ({ m with down := false }, 1)
  else match m.files k with
    | none => ({ m with down := false }, 12)
    | some f => ({ m with down := false, acts := m.acts + 1, fuse := fuseLess m.fuse, files := setF m.files k none, gone := if f.fresh then m.gone else setF m.gone k (some (f.data.take f.synced)) }, 0)

set_option maxHeartbeats 400000 in
set_option maxRecDepth 100000 in
theorem Dev.remove_down (h : Dev S w own db fb rb D E n m) (hd : (m.down || m.fuse == 0) = true) (s : ByteArray) :
    Calls Try.prog 18 #[.pointer (some ⟨db, 0, none⟩), .string s] w fun e w' => e = .returned (.int .i64 13) ∧ Dev S w' own db fb rb D E n { m with down := true } ∧ Step own own w w' := by
  have hpl := h.powerless
  rw [hd] at hpl
  clear hd h
  go_enter Try.func18, Try.ntmps18
  go_wp2_with fail
  refine hpl.mono ?_
  rintro e w1 ⟨rfl, h1, st1⟩
  go_wp2_with fail
  go_ret
  exact ⟨rfl, h1, st1⟩

set_option maxHeartbeats 400000 in
set_option maxRecDepth 100000 in
theorem Dev.remove_bad (h : Dev S w own db fb rb D E n m) (hd : (m.down || m.fuse == 0) = false) {s : ByteArray} (hs : s.size ≤ maxLen) (hn : nameOk s.data.toList = false) :
    Calls Try.prog 18 #[.pointer (some ⟨db, 0, none⟩), .string s] w fun e w' => e = .returned (.int .i64 1) ∧ Dev S w' own db fb rb D E n { m with down := false } ∧ Step own own w w' := by
  have hpl := h.powerless
  rw [hd] at hpl
  have hfd := fun w => find_bad ⟨db, 0, none⟩ s w hs hn
  clear hd h hn
  go_enter Try.func18, Try.ntmps18
  go_wp2_with fail
  refine hpl.mono ?_
  rintro e w1 ⟨rfl, h1, st1⟩
  go_wp2_with fail
  refine (hfd _).mono ?_
  rintro e w2 ⟨rfl, rfl⟩
  go_wp2_with fail
  go_ret
  exact ⟨rfl, h1, st1⟩

set_option maxHeartbeats 400000 in
set_option maxRecDepth 100000 in
theorem Dev.remove_none (h : Dev S w own db fb rb D E n m) (hd : (m.down || m.fuse == 0) = false) {s : ByteArray} (hs : s.size ≤ maxLen) (hn : nameOk s.data.toList = true) (hf : m.files s.data.toList = none) :
    Calls Try.prog 18 #[.pointer (some ⟨db, 0, none⟩), .string s] w fun e w' => e = .returned (.int .i64 12) ∧ Dev S w' own db fb rb D E n { m with down := false } ∧ Step own own w w' := by
  have hpl := h.powerless
  rw [hd] at hpl
  have Hn := Lib.hid hn
  have Hf := Lib.hid hf
  clear hd h hn hf
  go_enter Try.func18, Try.ntmps18
  go_wp2_with fail
  refine hpl.mono ?_
  rintro e w1 ⟨rfl, h1, st1⟩
  have hfd := h1.find_none hs Hn.out Hf.out
  go_wp2_with fail
  refine hfd.mono ?_
  rintro e w2 ⟨rfl, rfl⟩
  go_wp2_with fail
  go_ret
  exact ⟨rfl, h1, st1⟩

/-- The file of a name is taken out of the files' map. -/
theorem Dev.del (h : Dev S w own db fb rb D E n m) {k : List UInt8} (hf : (m.files k).isSome) {c : Nat} (hm : w'.ownsMap Try.prog 9 ptrR fb c (D.del (.string k))) (ht : w.mapTurned w' fb) :
    Dev S w' own db fb rb (D.del (.string k)) E n { m with files := setF m.files k none } ∧ Maps.size (D.del (.string k)) + 1 = Maps.size D := by
  have hg := ht.grown
  have hsz : Maps.size (D.del (.string k)) + 1 = Maps.size D := by
    obtain ⟨c0, hc0⟩ := h.fmap
    have h1 := Maps.size_del (k := .string k) (hc0.tidy lawS)
    have h2 := h.dom k
    rw [hf] at h2
    rw [h2] at h1
    simpa using h1
  have keep : ∀ b t, own b = some t → t.1 ≠ 1 → w'.heap[b]? = w.heap[b]? := fun b t hb h1 => by
    refine hg.block b (h.lt (by simp [hb])) (fun e => ?_)
    injection e with e
    rw [e, h.ofb] at hb
    injection hb with hb
    rw [← hb] at h1
    exact h1 rfl
  refine ⟨{
    blk := (keep db _ h.odb (by simp)).trans h.blk
    fmap := ⟨c, hm⟩
    rmap := let ⟨c, hc⟩ := h.rmap; ⟨c, ownsMap_of_block hc (keep rb _ h.orb (by simp))⟩
    cnt := by have := h.cnt; omega
    dom := fun k' => by
      by_cases e : k' = k
      · subst e
        simp only [setF_same, Option.isSome_none]
        exact Maps.has_del_same
      · simp only [setF_other _ _ e]
        rw [Maps.has_del_other (fun e1 => e (by injection e1))]
        exact h.dom k'
    rdom := h.rdom
    rback := h.rback
    fil := fun k' f' hf' => by
      by_cases e : k' = k
      · subst e
        simp only [setF_same] at hf'
        cases hf'
      · simp only [setF_other _ _ e] at hf'
        obtain ⟨p', dv', h1, h2, h3, h4⟩ := h.fil k' f' hf'
        exact ⟨p', dv', fun z => (Maps.atKey_del_other (fun e1 => e (by injection e1)) _).trans (h1 z), h2.kept (keep p' _ h3 (by simp)) (fun g hg' => keep g _ (h4 g hg') (by simp)), h3, h4⟩
    rem := fun k' d hd => by
      obtain ⟨dv', h1, h2, h3, h4⟩ := h.rem k' d hd
      exact ⟨dv', h1, ownsRow_of_block h2 (fun g hg' => keep g _ (h4 g hg') (by simp)), h3, h4⟩
    odb := h.odb
    ofb := h.ofb
    orb := h.orb
    old := fun b hb => h.old b (Nat.le_trans hg.size hb)
    rroom := h.rroom
    rfuse := h.rfuse
    racts := h.racts }, hsz⟩

/-- What was synced of a removed file is laid by. -/
theorem Dev.putGone (h : Dev S w own db fb rb D E n m) {k : List UInt8} {d : List UInt8} {dv : Value} (hsz : w.heap.size ≤ w'.heap.size)
    (hkeep : ∀ b, own b ≠ none → b ≠ rb → w'.heap[b]? = w.heap[b]?) {c : Nat} (hm : w'.ownsMap Try.prog 9 slR rb c (E.put (.string k) (slD dv)))
    (hrow : w'.ownsRow w.heap.size 5 1 dv d.length (byteCells d)) (hl : d.length ≤ 262144) :
    Dev S w' (fun b => if dv.ownBlock = some b then some (5, k) else own b) db fb rb D (E.put (.string k) (slD dv)) (n + 1) { m with gone := setF m.gone k (some d) } := by
  obtain ⟨c0, hc0⟩ := h.rmap
  have hmap := hc0.isMap
  have own_ : ∀ b t, own b = some t → (if dv.ownBlock = some b then some (5, k) else own b) = some t := fun b t hb => by
    have hlt := h.lt (b := b) (by simp [hb])
    rw [if_neg (fun e => by have := (hrow.lt b e).1; omega)]
    exact hb
  have keep : ∀ b t, own b = some t → t.1 ≠ 2 → w'.heap[b]? = w.heap[b]? := fun b t hb h1 => by
    refine hkeep b (by simp [hb]) (fun e => ?_)
    rw [e, h.orb] at hb
    injection hb with hb
    rw [← hb] at h1
    exact h1 rfl
  exact {
    blk := (keep db _ h.odb (by simp)).trans h.blk
    fmap := let ⟨c, hc⟩ := h.fmap; ⟨c, ownsMap_of_block hc (keep fb _ h.ofb (by simp))⟩
    rmap := ⟨c, hm⟩
    cnt := by
      have := h.cnt
      have h2 := Maps.size_put (k := .string k) (hc0.tidy lawS) (slD dv)
      split at h2 <;> omega
    dom := h.dom
    rdom := fun k' hk' => by
      by_cases e : k' = k
      · subst e
        exact Maps.has_put_same (k := .string k') hmap trivial _
      · simp only [setF_other _ _ e] at hk'
        rw [Maps.has_put_other (fun e1 => e (by injection e1))]
        exact h.rdom k' hk'
    rback := fun hS k' hk' => by
      by_cases e : k' = k
      · subst e
        simp only [setF_same, Option.isSome_some]
      · simp only [setF_other _ _ e]
        rw [Maps.has_put_other (fun e1 => e (by injection e1))] at hk'
        exact h.rback hS k' hk'
    fil := fun k' f' hf' => by
      obtain ⟨p', dv', h1, h2, h3, h4⟩ := h.fil k' f' hf'
      exact ⟨p', dv', h1, h2.kept (keep p' _ h3 (by simp)) (fun g hg' => keep g _ (h4 g hg') (by simp)), own_ _ _ h3, fun g hg' => own_ _ _ (h4 g hg')⟩
    rem := fun k' d' hd => by
      by_cases e : k' = k
      · subst e
        simp only [setF_same, Option.some.injEq] at hd
        subst hd
        exact ⟨dv, fun z => Maps.atKey_put_same (k := .string k') hmap trivial _ _, ownsRow_base hrow (Nat.zero_le _), hl, fun g hg' => by simp [hg']⟩
      · simp only [setF_other _ _ e] at hd
        obtain ⟨dv', h1, h2, h3, h4⟩ := h.rem k' d' hd
        exact ⟨dv', fun z => (Maps.atKey_put_other (fun e1 => e (by injection e1)) _ _).trans (h1 z), ownsRow_of_block h2 (fun g hg' => keep g _ (h4 g hg') (by simp)), h3, fun g hg' => own_ _ _ (h4 g hg')⟩
    odb := own_ _ _ h.odb
    ofb := own_ _ _ h.ofb
    orb := own_ _ _ h.orb
    old := fun b hb => by
      show (if dv.ownBlock = some b then some (5, k) else own b) = none
      rw [if_neg (fun e => by have := (hrow.lt b e).2; omega)]
      exact h.old b (Nat.le_trans hsz hb)
    rroom := h.rroom
    rfuse := h.rfuse
    racts := h.racts }

end
end Go.Proofs.Ytgkhnimdlkdaaaa
