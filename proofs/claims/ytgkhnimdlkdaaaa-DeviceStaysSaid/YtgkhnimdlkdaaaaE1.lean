/- The statement DeviceRefused, in plain words: what is refused leaves a device as it was. -/
import Derived.Test.YtgkhnimdlkdaaaaE0
namespace Go.Proofs.Ytgkhnimdlkdaaaa
open Go.RowKit Go.Lib Go.Maps Go.ChangeMaps Go.Sort

/-- The power is on, and no fuse is set. -/
def OnM (m : DevM) : Prop := m.down = false ∧ m.fuse = -1

theorem OnM.of {room : Int} {ls : List LogV} : OnM (ofM room ls) := ⟨rfl, rfl⟩

theorem OnM.off {m : DevM} (h : OnM m) : (m.down || m.fuse == 0) = false := by rw [h.1, h.2]; rfl
theorem OnM.same {m : DevM} (h : OnM m) : { m with down := false } = m := by
  obtain ⟨room, acts, fuse, down, files, gone⟩ := m
  obtain ⟨h1, h2⟩ := h
  dsimp only at h1
  subst h1
  rfl

theorem OnM.append {m : DevM} (h : OnM m) (sz used : Nat) (k bs : List UInt8) : OnM (appendM m sz used k bs).1 ∧ ((appendM m sz used k bs).2 ≠ 0 → (appendM m sz used k bs).1 = m) ∧ (nameOk k = false → (appendM m sz used k bs).2 = 1) := by
  unfold appendM
  rw [if_neg (by rw [h.off]; simp)]
  by_cases h1 : nameOk k = false
  · rw [if_pos h1]
    exact ⟨⟨rfl, h.2⟩, fun _ => h.same, fun _ => rfl⟩
  · rw [if_neg h1]
    refine ⟨?_, ?_, fun e => absurd e h1⟩
    · split
      · exact ⟨rfl, h.2⟩
      · split
        · exact ⟨rfl, h.2⟩
        · refine ⟨rfl, ?_⟩
          show fuseLess m.fuse = -1
          rw [h.2]
          rfl
    · split
      · exact fun _ => h.same
      · split
        · exact fun _ => h.same
        · exact fun e => absurd rfl e

theorem OnM.remove {m : DevM} (h : OnM m) (k : List UInt8) : OnM (removeM m k).1 ∧ ((removeM m k).2 ≠ 0 → (removeM m k).1 = m) ∧ (nameOk k = false → (removeM m k).2 = 1) := by
  unfold removeM
  rw [if_neg (by rw [h.off]; simp)]
  by_cases h1 : nameOk k = false
  · rw [if_pos h1]
    exact ⟨⟨rfl, h.2⟩, fun _ => h.same, fun _ => rfl⟩
  · rw [if_neg h1]
    refine ⟨?_, ?_, fun e => absurd e h1⟩
    · split
      · exact ⟨rfl, h.2⟩
      · refine ⟨rfl, ?_⟩
        show fuseLess m.fuse = -1
        rw [h.2]
        rfl
    · split
      · exact fun _ => h.same
      · exact fun e => absurd rfl e

theorem OnM.sync {m : DevM} (h : OnM m) : OnM (syncM m).1 ∧ (syncM m).2 = 0 := by
  unfold syncM
  rw [if_neg (by rw [h.off]; simp)]
  refine ⟨⟨rfl, ?_⟩, rfl⟩
  show fuseLess m.fuse = -1
  rw [h.2]
  rfl

theorem OnM.does {m : DevM} (h : OnM m) (sz used : Nat) (o : OpV) : OnM (doesM m sz used o).1 ∧ ((doesM m sz used o).2 ≠ 0 → (doesM m sz used o).1 = m) ∧ (0 ≤ o.what → o.what < 4 → nameOk o.name.data.toList = false → (doesM m sz used o).2 = 1) := by
  unfold doesM
  by_cases h1 : o.what = 0 ∨ o.what = 1 ∨ o.what = 2
  · rw [if_pos h1]
    have h2 := h.append sz used o.name.data.toList o.bs
    exact ⟨h2.1, h2.2.1, fun _ _ => h2.2.2⟩
  · rw [if_neg h1]
    by_cases h3 : o.what = 3
    · rw [if_pos h3]
      have h2 := h.remove o.name.data.toList
      exact ⟨h2.1, h2.2.1, fun _ _ => h2.2.2⟩
    · rw [if_neg h3]
      by_cases h4 : o.what = 4
      · rw [if_pos h4]
        exact ⟨h.sync.1, fun e => absurd h.sync.2 e, fun _ _ => by omega⟩
      · rw [if_neg h4]
        exact ⟨h, fun e => absurd rfl e, fun _ _ => by omega⟩

theorem BArg.of_owns {w : World} {own : Owner} {B : Nat} {v : Value} {bs : List UInt8} (h : w.ownsRow B 5 1 v bs.length (byteCells bs)) (ho : ∀ b, B ≤ b → own b = none) : BArg w own v bs := by
  have hc := fun g hg => h.cells (g := g) hg
  rcases h.2 with ⟨rfl, h0⟩ | ⟨g, cap, cur, rfl, hg, _⟩
  · exact Or.inl ⟨rfl, List.eq_nil_of_length_eq_zero h0⟩
  · exact Or.inr ⟨⟨g, 0, none⟩, cap, rfl, fun _ => ho g hg, fun j x hj => hc g rfl j _ (by simp [byteCells, hj])⟩

/-- A device that is on, behind k calls of does. -/
def OnK (w wr : World) (db fb rb k : Nat) : Prop := ∃ (ow : Owner) (D E : DataW Unit) (n : Nat) (m : DevM), Dev True wr ow db fb rb D E n m ∧ OnM m ∧ n ≤ 64 + k ∧ m.acts ≤ k ∧ Step (fun _ => none) ow w wr

end Go.Proofs.Ytgkhnimdlkdaaaa
