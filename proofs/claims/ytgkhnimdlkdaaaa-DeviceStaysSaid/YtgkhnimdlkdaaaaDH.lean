/- A device of no file, or of one: what each call makes of it; and the live question of the layer's statements is answered true. -/
import Derived.Test.YtgkhnimdlkdaaaaDG
import Derived.Lib.SlBytesConst
namespace Go.Proofs.Ytgkhnimdlkdaaaa
open Go.RowKit Go.Lib Go.Maps Go.ChangeMaps

def emptyM (room acts : Int) : DevM := { room := room, acts := acts, fuse := -1, down := false, files := fun _ => none, gone := fun _ => none }
def oneM (room acts : Int) (k : List UInt8) (f : FileM) : DevM := { room := room, acts := acts, fuse := -1, down := false, files := setF (fun _ => none) k (some f), gone := fun _ => none }

theorem newM_eq (room : Int) : newM room = emptyM room 0 := rfl

theorem append_empty {room acts : Int} {k bs : List UInt8} (hn : nameOk k = true) (hl : bs.length ≤ 262144) (hr : (bs.length : Int) ≤ room) : appendM (emptyM room acts) 0 0 k bs = (oneM room (acts + 1) k ⟨bs, 0, true⟩, 0) := by
  have h1 : ¬ room < (bs.length : Int) := by omega
  simp [appendM, emptyM, oneM, hn, holdsI, hl, h1, fuseLess]

theorem append_bad {room acts : Int} {k bs : List UInt8} {sz used : Nat} (hn : nameOk k = false) : appendM (emptyM room acts) sz used k bs = (emptyM room acts, 1) := by
  simp [appendM, emptyM, hn]

theorem append_one {room acts : Int} {k bs : List UInt8} {f : FileM} (hn : nameOk k = true) (hl : f.data.length + bs.length ≤ 262144) (hr : (f.data.length : Int) + (bs.length : Int) ≤ room) :
    appendM (oneM room acts k f) 1 f.data.length k bs = (oneM room (acts + 1) k ⟨f.data ++ bs, f.synced, f.fresh⟩, 0) := by
  have h1 : ¬ room < (f.data.length : Int) + (bs.length : Int) := by omega
  have h2 : bs.length + f.data.length ≤ 262144 := by omega
  simp [appendM, oneM, hn, holdsI, setF_same, h2, h1, fuseLess, setF_twice]

theorem append_one_full {room acts : Int} {k k' bs : List UInt8} {f : FileM} (hn : nameOk k' = true) (hne : k' ≠ k) (hl : bs.length ≤ 262144) (hr : room < (f.data.length : Int) + (bs.length : Int)) :
    appendM (oneM room acts k f) 1 f.data.length k' bs = (oneM room acts k f, 11) := by
  simp [appendM, oneM, hn, holdsI, setF_other _ _ hne, hl, hr]

theorem sync_one {room acts : Int} {k : List UInt8} {f : FileM} : syncM (oneM room acts k f) = (oneM room (acts + 1) k (settleF f), 0) := by
  have e1 : (fun k' => (setF (fun _ => none) k (some f) k').map settleF) = setF (fun _ => none) k (some (settleF f)) := by
    funext k'
    by_cases e : k' = k
    · subst e; simp [setF_same]
    · simp [setF_other _ _ e]
  simp [syncM, oneM, settleM, fuseLess, e1]

theorem sync_empty {room acts : Int} : syncM (emptyM room acts) = (emptyM room (acts + 1), 0) := by
  simp [syncM, emptyM, settleM, fuseLess]

theorem remove_one_none {room acts : Int} {k k' : List UInt8} {f : FileM} (hn : nameOk k' = true) (hne : k' ≠ k) : removeM (oneM room acts k f) k' = (oneM room acts k f, 12) := by
  simp [removeM, oneM, hn, setF_other _ _ hne]

theorem crash_one {room acts : Int} {k : List UInt8} {f f' : FileM} {ks : List (ByteArray × Int)} (h : crashF ks k f = some f') : crashM ks (oneM room acts k f) = oneM room acts k (settleF f') := by
  have e1 : (fun k' => (crashFiles ks (oneM room acts k f) k').map settleF) = setF (fun _ => none) k (some (settleF f')) := by
    funext k'
    by_cases e : k' = k
    · subst e; simp [setF_same, crashFiles, oneM, h]
    · simp [setF_other _ _ e, crashFiles, oneM]
  simp [crashM, e1]
  simp [oneM]

theorem crash_empty {room acts : Int} {ks : List (ByteArray × Int)} : crashM ks (emptyM room acts) = emptyM room acts := by
  simp [crashM, emptyM, crashFiles]

theorem read_one {room acts : Int} {k : List UInt8} {f : FileM} (hn : nameOk k = true) : readM (oneM room acts k f) k = (f.data, 0) := by
  simp [readM, oneM, hn, setF_same]
theorem read_empty {room acts : Int} {k : List UInt8} (hn : nameOk k = true) : readM (emptyM room acts) k = ([], 12) := by simp [readM, emptyM, hn]
theorem read_bad {room acts : Int} {k : List UInt8} (hn : nameOk k = false) : readM (emptyM room acts) k = ([], 1) := by simp [readM, emptyM, hn]

section
variable {S : Prop} {w w' : World} {own own' : Owner} {db fb rb : Nat} {D D' E E' : DataW Unit} {n n' : Nat} {m : DevM}

theorem Dev.size_one {room acts : Int} {k : List UInt8} {f : FileM} (h : Dev S w own db fb rb D E n (oneM room acts k f)) : Maps.size D = 1 ∧ usedD D (oneM room acts k f).files = f.data.length ∧ f.data.length ≤ 262144 := by
  have h1 := h.size_of [k] (by simp) (fun k' => by
    by_cases e : k' = k
    · subst e; simp [oneM, setF_same]
    · simp [oneM, setF_other _ _ e, e])
  obtain ⟨p, dv, _, hfa, _⟩ := h.fil k f (by simp [oneM, setF_same])
  have h2 := hfa.2.2.2
  refine ⟨h1.1, h1.2.trans ?_, h2⟩
  simp [flen, oneM, setF_same]
  omega

theorem Dev.size_empty {room acts : Int} (h : Dev S w own db fb rb D E n (emptyM room acts)) : Maps.size D = 0 ∧ usedD D (emptyM room acts).files = 0 := by
  have h1 := h.size_of [] (by simp) (fun k' => by simp [emptyM])
  exact ⟨h1.1, h1.2⟩

end

theorem mk7 (w : World) : (Instr.makeSlice 31 (.int .i64 7) (.int .i64 7)).run Try.prog w = .ok (.slice (some ⟨w.heap.size, 0, none⟩) 7 7) (w.alloc (.cells #[.int .u8 0, .int .u8 0, .int .u8 0, .int .u8 0, .int .u8 0, .int .u8 0, .int .u8 0] 5)) := by kernel_rfl

set_option maxHeartbeats 4000000 in
set_option maxRecDepth 100000 in
theorem head_calls (w : World) : Calls Try.prog 11 #[] w fun e w' => e = .returned (.bool true) ∧ Below w.heap.size w w' := by
  have hmk := mk7
  have hcv := fun (w : World) (C : Array Value) (n c : Nat) => Lib.run_convert_bytes_const (P := Try.prog) w 31 5 C n c Try.underlying31 Try.underlying5
  go_enter Try.func11, Try.ntmps11
  go_wp2_with fail
  refine (Dev.new True w 10 (by omega)).mono ?_
  rintro e w1 ⟨rfl, own1, h1, st1⟩
  rw [newM_eq] at h1
  have H1 := Lib.hid h1
  have ST1 := Lib.hid st1
  clear h1 st1
  go_wp2_with fail
  -- Append ab
  have ho1 := H1.out.old _ (Nat.le_refl _)
  have b1 : BArg (w1.alloc (.cells #[.int .u8 97, .int .u8 98] 5 (2, 3))) own1 (.slice (some ⟨w1.heap.size, 0, none⟩) [(97 : UInt8), 98].length 2) [97, 98] := BArg.new 2 ho1 (fun j x hj => by
    match j, hj with
    | 0, hj => simp at hj; subst hj; rfl
    | 1, hj => simp at hj; subst hj; rfl)
  have a1 := (H1.out.alloc (.cells #[.int .u8 97, .int .u8 98] 5 (2, 3))).append (by omega) (by simp [emptyM]) (s := ⟨#[97]⟩) (by unfold maxLen; decide) b1
  rw [(H1.out.size_empty).1, (H1.out.size_empty).2, append_empty (by decide) (by decide) (by decide)] at a1
  dsimp only at a1
  refine a1.mono ?_
  rintro e w2 ⟨rfl, own2, D2, h2, st2⟩
  have H2 := Lib.hid h2
  have ST2 := Lib.hid ((ST1.out.trans (alloc_step own1 w1 _)).trans st2)
  clear h2 st2 a1 b1 ho1 H1 ST1
  go_wp2_with fail
  -- Sync
  have a2 := H2.out.sync (by simp [oneM])
  rw [sync_one] at a2
  dsimp only at a2
  refine a2.mono ?_
  rintro e w3 ⟨rfl, E3, h3, st3⟩
  have H3 := Lib.hid h3
  have ST3 := Lib.hid (ST2.out.trans st3)
  clear h3 st3 a2 H2 ST2
  go_wp2_with fail
  -- Append cd
  have ho3 := H3.out.old _ (Nat.le_refl _)
  have b3 : BArg (w3.alloc (.cells #[.int .u8 99, .int .u8 100] 5 (2, 3))) own2 (.slice (some ⟨w3.heap.size, 0, none⟩) [(99 : UInt8), 100].length 2) [99, 100] := BArg.new 2 ho3 (fun j x hj => by
    match j, hj with
    | 0, hj => simp at hj; subst hj; rfl
    | 1, hj => simp at hj; subst hj; rfl)
  have a3 := (H3.out.alloc (.cells #[.int .u8 99, .int .u8 100] 5 (2, 3))).append (by omega) (by simp [oneM]) (s := ⟨#[97]⟩) (by unfold maxLen; decide) b3
  rw [(H3.out.size_one).1, (H3.out.size_one).2.1, append_one (by decide) (by decide) (by decide)] at a3
  dsimp only at a3
  refine a3.mono ?_
  rintro e w4 ⟨rfl, own4, D4, h4, st4⟩
  have H4 := Lib.hid h4
  have ST4 := Lib.hid ((ST3.out.trans (alloc_step own2 w3 _)).trans st4)
  clear h4 st4 a3 b3 ho3 H3 ST3
  go_wp2_with fail
  -- Append of seven bytes
  have ho4 := H4.out.old _ (Nat.le_refl _)
  have b4 : BArg (w4.alloc (.cells #[.int .u8 0, .int .u8 0, .int .u8 0, .int .u8 0, .int .u8 0, .int .u8 0, .int .u8 0] 5)) own4 (.slice (some ⟨w4.heap.size, 0, none⟩) [(0 : UInt8), 0, 0, 0, 0, 0, 0].length 7) [0, 0, 0, 0, 0, 0, 0] := BArg.new 7 ho4 (fun j x hj => by
    match j, hj with
    | 0, hj => simp at hj; subst hj; rfl
    | 1, hj => simp at hj; subst hj; rfl
    | 2, hj => simp at hj; subst hj; rfl
    | 3, hj => simp at hj; subst hj; rfl
    | 4, hj => simp at hj; subst hj; rfl
    | 5, hj => simp at hj; subst hj; rfl
    | 6, hj => simp at hj; subst hj; rfl)
  have a4 := (H4.out.alloc (.cells #[.int .u8 0, .int .u8 0, .int .u8 0, .int .u8 0, .int .u8 0, .int .u8 0, .int .u8 0] 5)).append (by omega) (by simp [oneM]) (s := ⟨#[98]⟩) (by unfold maxLen; decide) b4
  rw [(H4.out.size_one).1, (H4.out.size_one).2.1, append_one_full (by decide) (by decide) (by decide) (by decide)] at a4
  dsimp only at a4
  refine a4.mono ?_
  rintro e w5 ⟨rfl, own5, D5, h5, st5⟩
  have H5 := Lib.hid h5
  have ST5 := Lib.hid ((ST4.out.trans (alloc_step own4 w4 _)).trans st5)
  clear h5 st5 a4 b4 ho4 H4 ST4
  go_wp2_with fail
  -- Remove of a name that none has
  have a5 := H5.out.remove (by omega) (by simp [oneM]) (s := ⟨#[99]⟩) (by unfold maxLen; decide)
  rw [remove_one_none (by decide) (by decide)] at a5
  dsimp only at a5
  refine a5.mono ?_
  rintro e w6 ⟨rfl, own6, D6, E6, h6, st6⟩
  have H6 := Lib.hid h6
  have ST6 := Lib.hid (ST5.out.trans st6)
  clear h6 st6 a5 H5 ST5
  go_wp2_with fail
  -- Crash
  have ho6 := H6.out.old _ (Nat.le_refl _)
  have k6 : KArg (w6.alloc (.cells #[.string ⟨#[97]⟩, .int .i64 1] 57)) own6 (.slice (some ⟨w6.heap.size, 0, none⟩) [((⟨#[97]⟩ : ByteArray), (1 : Int))].length 1) [(⟨#[97]⟩, 1)] := KArg.new 1 ho6 (fun j s m hj => by
    match j, hj with
    | 0, hj => simp at hj; obtain ⟨rfl, rfl⟩ := hj; exact ⟨rfl, rfl, by unfold maxLen; decide, by decide⟩)
  have a6 := (H6.out.alloc (.cells #[.string ⟨#[97]⟩, .int .i64 1] 57)).crash trivial (by omega) k6 (by simp)
  have hcf : crashF [((⟨#[97]⟩ : ByteArray), (1 : Int))] (⟨#[97]⟩ : ByteArray).data.toList ⟨(settleF ⟨[97, 98], 0, true⟩).data ++ [99, 100], (settleF ⟨[97, 98], 0, true⟩).synced, (settleF ⟨[97, 98], 0, true⟩).fresh⟩ = some ⟨[97, 98, 99], 2, false⟩ := rfl
  rw [crash_one hcf] at a6
  refine a6.mono ?_
  rintro e w7 ⟨rfl, own7, D7, h7, st7⟩
  have H7 := Lib.hid h7
  have ST7 := Lib.hid ((ST6.out.trans (alloc_step own6 w6 _)).trans st7)
  clear h7 st7 a6 k6 ho6 hcf H6 ST6
  go_wp2_with fail
  -- Read
  have a7 := H7.out.read (s := ⟨#[97]⟩) (by unfold maxLen; decide)
  rw [read_one (by decide)] at a7
  dsimp only at a7
  refine a7.mono ?_
  rintro e w8 ⟨v, rfl, hrow, hb8⟩
  have H8 := Lib.hid (H7.out.below hb8)
  have ST8 := Lib.hid (ST7.out.trans (below_step own7 hb8))
  have hcr := conv_row hrow
  have hcr2 : (convert 31 9 v).run Try.prog w8 = .ok (.string ⟨#[97, 98, 99]⟩) w8 := hcr
  have c3 : w8.cell? ⟨w.heap.size + 2, 3, none⟩ = some (.int .i64 3) := H8.out.c3
  clear a7 hb8 hcr hrow H7 ST7
  go_wp2_with fail
  refine (acts_calls _ 3 w8 c3).mono ?_
  rintro e w9 ⟨rfl, rfl⟩
  clear c3
  go_wp2_with fail
  have a8 := H8.out.used (by omega)
  rw [(H8.out.size_one).2.1] at a8
  refine a8.mono ?_
  rintro e w9 ⟨rfl, hb9⟩
  have ST9 := ST8.out.trans (below_step own7 hb9)
  go_wp2_with fail
  go_ret
  exact ⟨rfl, ST9.fr.to_below (Nat.le_refl _) (fun k _ => by simp)⟩

end Go.Proofs.Ytgkhnimdlkdaaaa
