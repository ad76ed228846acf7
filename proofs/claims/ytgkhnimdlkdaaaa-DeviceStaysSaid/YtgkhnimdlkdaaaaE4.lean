/- The statement DeviceStays, in plain words: what is left of a file that was synced, call by call, and behind a crash. -/
import Derived.Test.YtgkhnimdlkdaaaaE3
namespace Go.Proofs.Ytgkhnimdlkdaaaa
open Go.RowKit Go.Lib Go.Maps Go.ChangeMaps Go.Sort

/-- Of a file that was synced with bytes W: it was removed, and stands by, or it has these bytes and more. -/
def StayI (W nm : List UInt8) (m : DevM) (g : Bool) (L : List UInt8) : Prop :=
  (g = true → m.gone nm = some W ∧ ∀ f, m.files nm = some f → f.fresh = true) ∧
  (g = false → m.gone nm = none ∧ ∃ f, m.files nm = some f ∧ f.data = L ∧ f.synced = W.length ∧ f.fresh = false ∧ L.take W.length = W ∧ W.length ≤ L.length)

theorem StayI.congr {W nm L : List UInt8} {m m' : DevM} {g : Bool} (h : StayI W nm m g L) (hf : m'.files nm = m.files nm) (hg : m'.gone nm = m.gone nm) : StayI W nm m' g L := by
  unfold StayI
  rw [hf, hg]
  exact h

theorem append_ok {m : DevM} {sz used : Nat} {k bs : List UInt8} (h : OnM m) (h0 : (appendM m sz used k bs).2 = 0) :
    bs.length ≤ 262144 ∧ (appendM m sz used k bs).1.gone = m.gone ∧ (appendM m sz used k bs).1.files = setF m.files k (some ⟨((m.files k).getD ⟨[], 0, true⟩).data ++ bs, ((m.files k).getD ⟨[], 0, true⟩).synced, ((m.files k).getD ⟨[], 0, true⟩).fresh⟩) := by
  unfold appendM at h0 ⊢
  rw [if_neg (by rw [h.off]; simp)] at h0 ⊢
  by_cases h1 : nameOk k = false
  · rw [if_pos h1] at h0
    exact absurd (show (1 : Int) = 0 from h0) (by decide)
  · rw [if_neg h1] at h0 ⊢
    by_cases h2 : holdsI sz (m.files k) bs.length = false
    · rw [if_pos h2] at h0
      exact absurd (show (2 : Int) = 0 from h0) (by decide)
    · rw [if_neg h2] at h0 ⊢
      by_cases h3 : m.room < (used : Int) + bs.length
      · rw [if_pos h3] at h0
        exact absurd (show (11 : Int) = 0 from h0) (by decide)
      · rw [if_neg h3] at h0 ⊢
        refine ⟨?_, rfl, rfl⟩
        have h4 : holdsI sz (m.files k) bs.length = true := by simpa using h2
        unfold holdsI at h4
        split at h4
        · simp at h4; omega
        · simp at h4; omega

theorem remove_ok {m : DevM} {k : List UInt8} (h : OnM m) (h0 : (removeM m k).2 = 0) :
    ∃ f, m.files k = some f ∧ (removeM m k).1.files = setF m.files k none ∧ (removeM m k).1.gone = if f.fresh then m.gone else setF m.gone k (some (f.data.take f.synced)) := by
  unfold removeM at h0 ⊢
  rw [if_neg (by rw [h.off]; simp)] at h0 ⊢
  by_cases h1 : nameOk k = false
  · rw [if_pos h1] at h0
    exact absurd (show (1 : Int) = 0 from h0) (by decide)
  · rw [if_neg h1] at h0 ⊢
    cases hf : m.files k with
    | none =>
      rw [hf] at h0
      exact absurd (show (12 : Int) = 0 from h0) (by decide)
    | some f => exact ⟨f, rfl, rfl, rfl⟩

section
variable {W nm L : List UInt8} {m : DevM} {g : Bool} {sz used : Nat} {o : OpV}

/-- A call that is refused, or done to another file, or none. -/
theorem StayI.other (h : StayI W nm m g L) (hon : OnM m) (h4 : o.what ≠ 4) (hne : (doesM m sz used o).2 ≠ 0 ∨ o.name.data.toList ≠ nm ∨ (o.what < 0 ∨ 3 < o.what)) : StayI W nm (doesM m sz used o).1 g L := by
  by_cases h0 : (doesM m sz used o).2 = 0
  rotate_left
  · rw [(hon.does sz used o).2.1 h0]
    exact h
  unfold doesM at h0 hne ⊢
  by_cases h1 : o.what = 0 ∨ o.what = 1 ∨ o.what = 2
  · rw [if_pos h1] at h0 hne ⊢
    obtain ⟨_, e1, e2⟩ := append_ok hon h0
    have hn : nm ≠ o.name.data.toList := by
      rcases hne with hn | hn | hn
      · exact absurd h0 hn
      · exact fun e => hn e.symm
      · omega
    exact h.congr (by rw [e2, setF_other _ _ hn]) (by rw [e1])
  · rw [if_neg h1] at h0 hne ⊢
    by_cases h3 : o.what = 3
    · rw [if_pos h3] at h0 hne ⊢
      obtain ⟨f, hf, e1, e2⟩ := remove_ok hon h0
      have hn : nm ≠ o.name.data.toList := by
        rcases hne with hn | hn | hn
        · exact absurd h0 hn
        · exact fun e => hn e.symm
        · omega
      refine h.congr (by rw [e1, setF_other _ _ hn]) ?_
      rw [e2]
      split
      · rfl
      · rw [setF_other _ _ hn]
    · rw [if_neg h3, if_neg h4]
      exact h

/-- It is removed. -/
theorem StayI.remove (h : StayI W nm m g L) (hon : OnM m) (h3 : o.what = 3) (hnm : o.name.data.toList = nm) (h0 : (doesM m sz used o).2 = 0) : StayI W nm (doesM m sz used o).1 true L := by
  have e0 : doesM m sz used o = removeM m nm := by unfold doesM; rw [if_neg (by omega), if_pos h3, hnm]
  rw [e0] at h0 ⊢
  obtain ⟨f, hf, e1, e2⟩ := remove_ok hon h0
  refine ⟨fun _ => ⟨?_, fun f' hf' => ?_⟩, fun e => by cases e⟩
  · rw [e2]
    cases g with
    | true =>
      obtain ⟨h1, h2⟩ := h.1 rfl
      rw [h2 f hf]
      exact h1
    | false =>
      obtain ⟨h1, f', h2, h4, h5, h6, h7, _⟩ := h.2 rfl
      rw [hf] at h2
      injection h2 with h2
      subst h2
      rw [h6, h4, h5, h7]
      exact setF_same _ _ _
  · rw [e1, setF_same] at hf'
    cases hf'

/-- Bytes are put behind it. -/
theorem StayI.append (h : StayI W nm m g L) (hon : OnM m) (hw : o.what = 0 ∨ o.what = 1 ∨ o.what = 2) (hnm : o.name.data.toList = nm) (h0 : (doesM m sz used o).2 = 0) : StayI W nm (doesM m sz used o).1 g (L ++ o.bs) := by
  have e0 : doesM m sz used o = appendM m sz used nm o.bs := by unfold doesM; rw [if_pos hw, hnm]
  rw [e0] at h0 ⊢
  obtain ⟨_, e1, e2⟩ := append_ok hon h0
  refine ⟨fun hg => ⟨by rw [e1]; exact (h.1 hg).1, fun f' hf' => ?_⟩, fun hg => ?_⟩
  · rw [e2, setF_same] at hf'
    injection hf' with hf'
    subst hf'
    cases hf : m.files nm with
    | none => rfl
    | some f => exact (h.1 hg).2 f hf
  · obtain ⟨h1, f', h2, h4, h5, h6, h7, h8⟩ := h.2 hg
    refine ⟨by rw [e1]; exact h1, ⟨f'.data ++ o.bs, f'.synced, f'.fresh⟩, by rw [e2, setF_same, h2]; rfl, ?_, h5, h6, ?_, by rw [List.length_append]; omega⟩
    · show f'.data ++ o.bs = _
      rw [h4]
    · rw [List.take_append_of_le_length h8, h7]

end

theorem does_len {m : DevM} {sz used : Nat} {o : OpV} (hon : OnM m) (hw : o.what = 0 ∨ o.what = 1 ∨ o.what = 2) (h0 : (doesM m sz used o).2 = 0) : o.bs.length ≤ 262144 := by
  unfold doesM at h0
  rw [if_pos hw] at h0
  exact (append_ok hon h0).1

/-- What a crash leaves of it. -/
theorem StayI.crash {W nm L : List UInt8} {m : DevM} {g : Bool} (h : StayI W nm m g L) (ks : List (ByteArray × Int)) (hn : nameOk nm = true) :
    ∃ X, readM (crashM ks m) nm = (X, 0) ∧ W.length ≤ X.length ∧ X.take W.length = W ∧ (g = true → X = W) ∧ (g = false → X.length ≤ L.length ∧ L.take X.length = X) := by
  have hd : (crashM ks m).down = false := rfl
  cases g with
  | true =>
    refine ⟨W, read_back hn (h.1 rfl).1, Nat.le_refl _, List.take_length, fun _ => rfl, fun e => by cases e⟩
  | false =>
    obtain ⟨h1, f, h2, h4, h5, h6, h7, h8⟩ := h.2 rfl
    have hc := cutK_le ks nm f (by rw [h5, h4]; exact h8)
    rw [h4, h5] at hc
    have hf : (crashM ks m).files nm = some (settleF ⟨f.data.take (cutK ks nm f), f.synced, f.fresh⟩) := by
      rw [crashM_files]
      have e1 : crashFiles ks m nm = some ⟨f.data.take (cutK ks nm f), f.synced, f.fresh⟩ := by
        unfold crashFiles
        rw [h1, h2]
        show crashF ks nm f = _
        unfold crashF
        rw [h6]
        simp
      rw [e1]
      rfl
    have hl : (L.take (cutK ks nm f)).length = cutK ks nm f := by rw [List.length_take]; omega
    refine ⟨L.take (cutK ks nm f), ?_, by rw [hl]; exact hc.1, ?_, (fun e => by cases e), fun _ => ⟨by rw [hl]; exact hc.2, by rw [hl]⟩⟩
    · unfold readM
      rw [hd, hn, hf]
      show (f.data.take _, (0 : Int)) = _
      rw [h4]
    · rw [List.take_take, Nat.min_eq_left hc.1, h7]

/-- What is read of a file behind a Sync stands so. -/
theorem StayI.start {m : DevM} {nm : List UInt8} (h : OnM m) (h0 : (readM (syncM m).1 nm).2 = 0) : nameOk nm = true ∧ StayI (readM (syncM m).1 nm).1 nm (syncM m).1 false (readM (syncM m).1 nm).1 := by
  have hon := h.sync.1
  have hf : (syncM m).1.files = fun k => (m.files k).map settleF := by
    unfold syncM
    rw [if_neg (by rw [h.off]; simp)]
    rfl
  have hg : (syncM m).1.gone = fun _ => none := by
    unfold syncM
    rw [if_neg (by rw [h.off]; simp)]
    rfl
  have key : readM (syncM m).1 nm = if nameOk nm then (match (m.files nm).map settleF with | none => ([], (12 : Int)) | some f => (f.data, (0 : Int))) else ([], (1 : Int)) := by
    unfold readM
    rw [hon.1, hf]
    rfl
  rw [key] at h0 ⊢
  cases hn : nameOk nm with
  | false =>
    rw [hn] at h0
    exact absurd (show (1 : Int) = 0 from h0) (by decide)
  | true =>
    rw [hn] at h0
    cases hm : m.files nm with
    | none =>
      rw [hm] at h0
      exact absurd (show (12 : Int) = 0 from h0) (by decide)
    | some f =>
      show true = true ∧ StayI f.data nm (syncM m).1 false f.data
      exact ⟨rfl, (fun e => by cases e), fun _ => ⟨by rw [hg], settleF f, by rw [hf]; show (m.files nm).map settleF = _; rw [hm]; rfl, rfl, rfl, rfl, List.take_length, Nat.le_refl _⟩⟩

theorem BArg.upto {w : World} {own : Owner} {v : Value} {bs : List UInt8} (h : BArg w own v bs) {k : Nat} (hk : k ≤ bs.length) (hc : ∃ c, ∃ a, v = .slice a bs.length c ∧ bs.length ≤ c) :
    ∃ v', (∀ W : World, (Instr.slice 31 v none (some (.int .i64 k)) none).run Try.prog W = .ok v' W) ∧ BArg w own v' (bs.take k) := by
  have hz : ∀ W : World, (sizeOf 5).run Try.prog W = .ok 1 W := fun W => by kernel_rfl
  have he : Try.prog.elem 31 = 5 := by kernel_rfl
  rcases h with ⟨rfl, rfl⟩ | ⟨A, c, rfl, h1, h2⟩
  · have hk0 : k = 0 := by simpa using hk
    subst hk0
    refine ⟨.slice none 0 0, fun W => ?_, Or.inl ⟨rfl, rfl⟩⟩
    rw [run_slice_h (P := Try.prog) W 31 none 0 0 (by kernel_rfl) .i64 ((0 : Nat) : Int) (by omega) (by omega), he, hz]
    simp [Result.andThen, sliced]
  · obtain ⟨c', a, e1, h3⟩ := hc
    injection e1 with _ _ e1
    subst e1
    have hl : (bs.take k).length = k := by rw [List.length_take]; omega
    refine ⟨.slice (some A) (bs.take k).length c, fun W => ?_, Or.inr ⟨A, c, rfl, fun hne => h1 (fun e => hne (by rw [e]; simp)), fun j x hj => ?_⟩⟩
    · rw [run_slice_h (P := Try.prog) W 31 _ bs.length c (by kernel_rfl) .i64 (k : Int) (by omega) (by omega), he, hz, hl]
      simp [Result.andThen, sliced, Addr.add]
    · have hjk : j < k := by have := (List.getElem?_eq_some_iff.1 hj).1; omega
      rw [List.getElem?_take_of_lt hjk] at hj
      exact h2 j x hj

end Go.Proofs.Ytgkhnimdlkdaaaa
