/- What a device's calls leave, in plain words: how many acts; whose names are told; crashes behind crashes. -/
import Derived.Test.YtgkhnimdlkdaaaaDU
import Derived.Sort.KeysCollected
namespace Go.Proofs.Ytgkhnimdlkdaaaa
open Go.RowKit Go.Lib Go.Maps Go.ChangeMaps Go.Sort

theorem appendM_acts (m : DevM) (sz used : Nat) (k bs : List UInt8) : (appendM m sz used k bs).1.acts ≤ m.acts + 1 := by
  unfold appendM
  split
  · show m.acts ≤ _; omega
  · split
    · show m.acts ≤ _; omega
    · split
      · show m.acts ≤ _; omega
      · split
        · show m.acts ≤ _; omega
        · exact Int.le_refl _

theorem removeM_acts (m : DevM) (k : List UInt8) : (removeM m k).1.acts ≤ m.acts + 1 := by
  unfold removeM
  split
  · show m.acts ≤ _; omega
  · split
    · show m.acts ≤ _; omega
    · split
      · show m.acts ≤ _; omega
      · exact Int.le_refl _

theorem syncM_acts (m : DevM) : (syncM m).1.acts ≤ m.acts + 1 := by
  unfold syncM
  split
  · show m.acts ≤ _; omega
  · exact Int.le_refl _

theorem doesM_acts (m : DevM) (sz used : Nat) (o : OpV) : (doesM m sz used o).1.acts ≤ m.acts + 1 := by
  unfold doesM
  split
  · exact appendM_acts _ _ _ _ _
  · split
    · exact removeM_acts _ _
    · split
      · exact syncM_acts _
      · show m.acts ≤ _; omega

theorem crashF_settleF (ks : List (ByteArray × Int)) (k : List UInt8) (f : FileM) : crashF ks k (settleF f) = some (settleF f) := by
  have e1 : cutK ks k (settleF f) = f.data.length := by simp only [cutK, settleF]; omega
  simp [crashF, e1]
  simp [settleF]

theorem settleF_twice (f : FileM) : settleF (settleF f) = settleF f := rfl

theorem crashM_files (ks : List (ByteArray × Int)) (m : DevM) (k : List UInt8) : (crashM ks m).files k = (crashFiles ks m k).map settleF := rfl

/-- A crash behind a crash changes nothing. -/
theorem crash_crash (ks ks' : List (ByteArray × Int)) (m : DevM) : crashM ks' (crashM ks m) = crashM ks m := by
  have h : (fun k => (crashFiles ks' (crashM ks m) k).map settleF) = (crashM ks m).files := by
    funext k
    have e1 : crashFiles ks' (crashM ks m) k = ((crashM ks m).files k).bind (crashF ks' k) := rfl
    rw [e1, crashM_files]
    cases crashFiles ks m k with
    | none => rfl
    | some f => simp [crashF_settleF, settleF_twice]
  unfold crashM at h ⊢
  simp only [h]

/-- Nor does a Sync. -/
theorem sync_crash (ks : List (ByteArray × Int)) (m : DevM) : (syncM (crashM ks m)).2 = 0 ∧ (syncM (crashM ks m)).1.files = (crashM ks m).files := by
  refine ⟨rfl, ?_⟩
  have e1 : (syncM (crashM ks m)).1.files = fun k => ((crashM ks m).files k).map settleF := rfl
  rw [e1]
  funext k
  rw [crashM_files]
  cases crashFiles ks m k with
  | none => rfl
  | some f => simp [settleF_twice]

section
variable {S S' : Prop} {w w' : World} {own own' : Owner} {db fb rb : Nat} {D D' E E' : DataW Unit} {n n' : Nat} {m m' : DevM}

/-- The names of a device's files. -/
theorem Dev.keys (h : Dev S w own db fb rb D E n m) : (strKeys D).Nodup ∧ ∀ k, k ∈ strKeys D ↔ (m.files k).isSome = true := by
  obtain ⟨c, hc⟩ := h.fmap
  obtain ⟨es, rfl, hap, _⟩ := hc.entries lawS
  have hst := ownsMap_strs hc
  have hdom := h.dom
  have hk : ∀ p : Lit × DataW Unit, strOf p.1 = keyS p.1 := fun p => by cases p.1 <;> rfl
  refine ⟨?_, fun k => ?_⟩
  · show (es.map fun p => strOf p.1).Nodup
    rw [List.nodup_iff_pairwise_ne, List.pairwise_map]
    refine hap.imp_of_mem (fun {p q} hp hq hne e => hne ?_)
    rw [hk, hk] at e
    rw [hst p hp, hst q hq, e]
  · show k ∈ (es.map fun p => strOf p.1) ↔ _
    rw [← hdom k]
    constructor
    · intro hk1
      obtain ⟨p, hp, rfl⟩ := List.mem_map.1 hk1
      refine List.any_eq_true.2 ⟨p, hp, ?_⟩
      rw [hk, ← hst p hp]
      rw [hst p hp]
      exact WideAt.sameKey_self trivial
    · intro hk1
      obtain ⟨p, hp, hpk⟩ := List.any_eq_true.1 hk1
      exact List.mem_map.2 ⟨p, hp, by rw [WideAt.sameKey_eq hpk]; rfl⟩

/-- Two devices of the same files tell the same names, and have as many bytes. -/
theorem Dev.same (h : Dev S w own db fb rb D E n m) {db' fb' rb' : Nat} (h' : Dev S' w' own' db' fb' rb' D' E' n' m') (hf : m'.files = m.files) : (strKeys D').Perm (strKeys D) ∧ Maps.size D' = Maps.size D ∧ usedD D' m'.files = usedD D m.files := by
  obtain ⟨h1, h2⟩ := h.keys
  obtain ⟨h3, h4⟩ := h'.keys
  have hp : (strKeys D').Perm (strKeys D) := (List.perm_ext_iff_of_nodup h3 h1).2 fun k => by rw [h2, h4, hf]
  have s1 := h.size_of (strKeys D) h1 (fun k => (h2 k).symm)
  have s2 := h'.size_of (strKeys D) h1 (fun k => by rw [hf]; exact (h2 k).symm)
  exact ⟨hp, s2.1.trans s1.1.symm, by rw [s2.2, s1.2, hf]⟩

end

/-- Names that a device does not own. -/
def NRow (w : World) (own : Owner) (a : Option Addr) (ss : List (List UInt8)) : Prop := ∀ j s, ss[j]? = some s → ∃ ad, a = some ad ∧ own ad.block = none ∧ w.cell? (ad.add j) = some (encStr s)

theorem NRow.step {w w' : World} {own own' : Owner} {a : Option Addr} {ss : List (List UInt8)} (h : NRow w own a ss) (hs : Step own own' w w') : NRow w' own' a ss := fun j s hj => by
  obtain ⟨ad, h1, h2, h3⟩ := h j s hj
  have hlt := World.block_lt_of_cell? _ _ h3
  rw [add_block] at hlt
  exact ⟨ad, h1, hs.own _ hlt h2, hs.fr.cell h3 (by rw [add_block]; simp [h2])⟩

theorem NRow.of_owns {w : World} {own : Owner} {B : Nat} {v : Value} {ss : List (List UInt8)} (h : w.ownsRow B 9 1 v ss.length (ss.map encStr)) (ho : ∀ b, B ≤ b → own b = none) : ∃ a c, v = .slice a ss.length c ∧ NRow w own a ss := by
  have hc := fun g hg => h.cells (g := g) hg
  rcases h.2 with ⟨rfl, h0⟩ | ⟨g, cap, cur, rfl, hg, _⟩
  · obtain rfl : ss = [] := List.eq_nil_of_length_eq_zero h0
    exact ⟨none, 0, rfl, fun j s hj => by simp at hj⟩
  · exact ⟨_, cap, rfl, fun j s hj => ⟨_, rfl, ho g hg, hc g rfl j _ (by simp [hj])⟩⟩

end Go.Proofs.Ytgkhnimdlkdaaaa
