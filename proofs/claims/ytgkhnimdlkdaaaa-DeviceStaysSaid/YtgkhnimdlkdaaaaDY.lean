/- The statement DeviceOther, in plain words: what an Append to a device of Of's leaves of all files, and a crash behind it. -/
import Derived.Test.YtgkhnimdlkdaaaaDX
namespace Go.Proofs.Ytgkhnimdlkdaaaa
open Go.RowKit Go.Lib Go.Maps Go.ChangeMaps Go.Sort

theorem ofM_files {room : Int} {ls : List LogV} (k : List UInt8) : (ofM room ls).files k = (ofF ls ls.length k).map settleF := rfl

theorem ofM_at {room : Int} {ls : List LogV} (h : OfOk ls) {i : Nat} {x : LogV} (hi : ls[i]? = some x) : (ofM room ls).files (nmOf x) = some ⟨x.ds, x.ds.length, false⟩ := by
  rw [ofM_files, h.find hi]
  rfl

theorem ofM_some {room : Int} {ls : List LogV} (k : List UInt8) : ((ofM room ls).files k).isSome = true ↔ k ∈ ls.map nmOf := by
  rw [ofM_files, Option.isSome_map]
  exact OfOk.mem k

/-- The device behind an Append. -/
def apM (room : Int) (ls : List LogV) (sz used : Nat) (k bs : List UInt8) : DevM × Int := appendM (ofM room ls) sz used k bs

theorem ap_other {room : Int} {ls : List LogV} {sz used : Nat} {k k' bs : List UInt8} (h : k' ≠ k) : (apM room ls sz used k bs).1.files k' = (ofM room ls).files k' := by
  unfold apM appendM
  split
  · rfl
  · split
    · rfl
    · split
      · rfl
      · split
        · rfl
        · exact setF_other _ _ h

theorem ap_down {room : Int} {ls : List LogV} {sz used : Nat} {k bs : List UInt8} : (apM room ls sz used k bs).1.down = false := by
  unfold apM appendM
  split
  · rename_i h
    have h1 : ((ofM room ls).down || (ofM room ls).fuse == 0) = false := rfl
    rw [h1] at h
    cases h
  · split
    · rfl
    · split
      · rfl
      · split <;> rfl

theorem ap_there {room : Int} {ls : List LogV} {sz used : Nat} {k bs : List UInt8} (h : ((ofM room ls).files k).isSome = true) : ((apM room ls sz used k bs).1.files k).isSome = true := by
  unfold apM appendM
  split
  · exact h
  · split
    · exact h
    · split
      · exact h
      · split
        · exact h
        · show (setF _ k _ k).isSome = true
          rw [setF_same]
          rfl

theorem ap_read {room : Int} {ls : List LogV} {sz used : Nat} {k bs : List UInt8} (h : OfOk ls) {i : Nat} {x : LogV} (hi : ls[i]? = some x) :
    (readM (apM room ls sz used k bs).1 (nmOf x)).2 = 0 ∧ (nmOf x ≠ k → (readM (apM room ls sz used k bs).1 (nmOf x)).1 = x.ds) := by
  have hn : nameOk (nmOf x) = true := (h.2 i x hi).1
  have hf := ofM_at (room := room) h hi
  have hs : ((apM room ls sz used k bs).1.files (nmOf x)).isSome = true := by
    by_cases e : nmOf x = k
    · rw [e]
      refine ap_there ?_
      rw [← e, hf]
      rfl
    · rw [ap_other e, hf]
      rfl
  obtain ⟨f, hff⟩ := Option.isSome_iff_exists.1 hs
  unfold readM
  rw [ap_down, hn, hff]
  refine ⟨rfl, fun e => ?_⟩
  rw [ap_other e, hf] at hff
  injection hff with hff
  rw [← hff]
  rfl

/-- An Append that is done, to a file that was not there. -/
theorem ap_new {room : Int} {ls : List LogV} {sz used : Nat} {k bs : List UInt8} (h0 : (apM room ls sz used k bs).2 = 0) (h1 : (readM (ofM room ls) k).2 ≠ 0) :
    nameOk k = true ∧ (ofM room ls).files k = none ∧ (apM room ls sz used k bs).1.files = setF (ofM room ls).files k (some ⟨bs, 0, true⟩) ∧ (apM room ls sz used k bs).1.gone = fun _ => none := by
  have hd : ((ofM room ls).down || (ofM room ls).fuse == 0) = false := rfl
  have hd2 : (ofM room ls).down = false := rfl
  cases hn : nameOk k with
  | false =>
    exfalso
    unfold apM appendM at h0
    rw [hd, hn] at h0
    simp at h0
  | true =>
    cases hf : (ofM room ls).files k with
    | some f =>
      exfalso
      apply h1
      unfold readM
      rw [hd2, hn, hf]
      rfl
    | none =>
      refine ⟨rfl, rfl, ?_⟩
      unfold apM appendM at h0 ⊢
      rw [hd, hn, hf] at h0 ⊢
      by_cases hh : holdsI sz none bs.length = false
      · exfalso
        simp [hh] at h0
      · by_cases hr : (ofM room ls).room < (used : Int) + bs.length
        · exfalso
          simp [hh, hr] at h0
        · simp [hh, hr]
          rfl

/-- What is kept of a file that is said, or not. -/
def saidK (said : Bool) (s : ByteArray) (n : Nat) : List (ByteArray × Int) := if said then [(s, (n : Int))] else []

theorem said_new {s : ByteArray} {bs : List UInt8} (said : Bool) : crashF (saidK said s bs.length) s.data.toList ⟨bs, 0, true⟩ = if said then some ⟨bs, 0, true⟩ else none := by
  cases said with
  | true =>
    have h1 : manyK (saidK true s bs.length) s.data.toList = (bs.length : Int) := by simp [manyK, firstK, saidK]
    have h2 : cutK (saidK true s bs.length) s.data.toList ⟨bs, 0, true⟩ = bs.length := by
      simp only [cutK, h1]
      omega
    unfold crashF
    rw [h1, h2]
    have h3 : ¬ ((bs.length : Int) < 0) := by omega
    simp [h3]
  | false => rfl

section
variable {room : Int} {ls : List LogV} {sz used : Nat} {s : ByteArray} {bs : List UInt8}

theorem said_files (said : Bool) (h0 : (apM room ls sz used s.data.toList bs).2 = 0) (h1 : (readM (ofM room ls) s.data.toList).2 ≠ 0) (k : List UInt8) :
    (crashM (saidK said s bs.length) (apM room ls sz used s.data.toList bs).1).files k = if k = s.data.toList then (if said then some ⟨bs, bs.length, false⟩ else none) else (ofM room ls).files k := by
  obtain ⟨hn, hf, hfs, hg⟩ := ap_new h0 h1
  have e1 : crashFiles (saidK said s bs.length) (apM room ls sz used s.data.toList bs).1 k = ((apM room ls sz used s.data.toList bs).1.files k).bind (crashF (saidK said s bs.length) k) := by
    unfold crashFiles
    rw [hg]
  rw [crashM_files, e1, hfs]
  by_cases e : k = s.data.toList
  · rw [if_pos e, e, setF_same]
    show ((crashF _ _ _).map settleF) = _
    rw [said_new]
    cases said <;> rfl
  · rw [if_neg e, setF_other _ _ e, ofM_files]
    cases ofF ls ls.length k with
    | none => rfl
    | some f => simp [crashF_settleF, settleF_twice]

theorem said_read (said : Bool) (h0 : (apM room ls sz used s.data.toList bs).2 = 0) (h1 : (readM (ofM room ls) s.data.toList).2 ≠ 0) :
    readM (crashM (saidK said s bs.length) (apM room ls sz used s.data.toList bs).1) s.data.toList = if said then (bs, 0) else ([], 12) := by
  have hn := (ap_new h0 h1).1
  have hf := said_files said h0 h1 s.data.toList
  rw [if_pos rfl] at hf
  have hd : (crashM (saidK said s bs.length) (apM room ls sz used s.data.toList bs).1).down = false := rfl
  unfold readM
  rw [hd, hn, hf]
  cases said <;> rfl

theorem said_size {S : Prop} {w : World} {own : Owner} {db fb rb : Nat} {D E : DataW Unit} {n : Nat} (said : Bool) (hok : OfOk ls) (h0 : (apM room ls sz used s.data.toList bs).2 = 0) (h1 : (readM (ofM room ls) s.data.toList).2 ≠ 0)
    (h : Dev S w own db fb rb D E n (crashM (saidK said s bs.length) (apM room ls sz used s.data.toList bs).1)) : ls.length ≤ Maps.size D := by
  have hnd := hok.names
  have hnew : s.data.toList ∉ ls.map nmOf := fun hm => by
    have := (ofM_some (room := room) s.data.toList).2 hm
    rw [(ap_new h0 h1).2.1] at this
    cases this
  cases said with
  | true =>
    have h2 := (h.size_of (s.data.toList :: ls.map nmOf) (List.nodup_cons.2 ⟨hnew, hnd⟩) (fun k => by
      rw [said_files true h0 h1]
      by_cases e : k = s.data.toList
      · simp [e]
      · rw [if_neg e, ofM_some]
        simp [e])).1
    rw [h2, List.length_cons, List.length_map]
    omega
  | false =>
    have h2 := (h.size_of (ls.map nmOf) hnd (fun k => by
      rw [said_files false h0 h1]
      by_cases e : k = s.data.toList
      · rw [if_pos e, e]
        simp only [Bool.false_eq_true, if_false, Option.isSome_none, false_iff]
        exact hnew
      · rw [if_neg e, ofM_some])).1
    rw [h2, List.length_map]
    exact Nat.le_refl _

end
end Go.Proofs.Ytgkhnimdlkdaaaa
