/- Plain words on a device, without a program: a right name, and small facts on lists of bytes. | The small functions of a device that touch its own block alone (powerless, done, New, Acts, Down, Fuse) and isName: what each call gives back and what it leaves, whatever the block holds. | strings.Clone gives back the same string and turns nothing that was there; bytes.Clone gives back nil of nil, and else a new row of the same bytes. | What a device is in memory ('Dev'): its own block, its two maps, a block and a row for each file; who owns which block; and that it stays so while blocks that it doesn't own are written. | Looking a file up in a device: find, holds, Read; and making one: file. | Read of a device, in each of its cases. | Used of a device: how many bytes all files have, in whatever order the map is gone through. -/
import Derived.Lib.UnsafeStr
import Derived.Maps.OwnSet
import Derived.Maps.Range
import Derived.Test.YtdpbnacabinlgaaGreatDoorRows
import Derived.WalkKit
import Derived.WalkSpells
import Derived.WalkLawsBesides
import Derived.Lib.Strings
import Derived.Lib.BufferWrite
import Derived.Lib.Hide
import Derived.Laws.MakeOwn
import Derived.Maps.RangeWalk
namespace Go.Proofs.YtdpbnacabinlgaaGreatDoor
open Go.RowKit Go.Lib

/-- One of the bytes that a name may have. -/
def chOk (c : UInt8) : Bool := decide (97 ≤ c.toNat ∧ c.toNat ≤ 122 ∨ 48 ≤ c.toNat ∧ c.toNat ≤ 57 ∨ c.toNat = 45)

/-- A right name. -/
def nameOk (l : List UInt8) : Bool := decide (1 ≤ l.length) && decide (l.length ≤ 20) && l.all chOk

theorem chOk_iff (c : UInt8) : chOk c = true ↔ 97 ≤ c.toNat ∧ c.toNat ≤ 122 ∨ 48 ≤ c.toNat ∧ c.toNat ≤ 57 ∨ c.toNat = 45 := by simp [chOk]

theorem nameOk_short {l : List UInt8} (h : l.length < 1) : nameOk l = false := by simp [nameOk]; omega
theorem nameOk_long {l : List UInt8} (h : 20 < l.length) : nameOk l = false := by simp [nameOk]; omega
theorem nameOk_all {l : List UInt8} (h1 : 1 ≤ l.length) (h2 : l.length ≤ 20) (h : ∀ k, k < l.length → chOk (l.getD k 0) = true) : nameOk l = true := by
  simp only [nameOk, h1, h2, decide_true, Bool.true_and, List.all_eq_true]
  intro c hc
  obtain ⟨k, hk, rfl⟩ := List.mem_iff_getElem.1 hc
  have := h k hk
  rwa [List.getD_eq_getElem?_getD, List.getElem?_eq_getElem hk] at this
theorem nameOk_bad {l : List UInt8} {k : Nat} (hk : k < l.length) (h : chOk (l.getD k 0) = false) : nameOk l = false := by
  have hm : l.getD k 0 ∈ l := by
    rw [List.getD_eq_getElem?_getD, List.getElem?_eq_getElem hk]
    exact List.getElem_mem hk
  simp only [nameOk]
  have : l.all chOk = false := by
    rw [List.all_eq_false]
    exact ⟨_, hm, by rw [h]; decide⟩
  rw [this]
  simp

theorem getD_bytes (s : ByteArray) (k : Nat) (h : k < s.size) : s.data.toList.getD k 0 = s[k] := by
  rw [List.getD_eq_getElem?_getD, List.getElem?_eq_getElem (by simpa using h)]
  rfl

theorem byteCells_take (l : List UInt8) (k : Nat) : (Lib.byteCells l).take k = Lib.byteCells (l.take k) := by simp [Lib.byteCells, List.map_take]

theorem nameOk_len {l : List UInt8} (h : nameOk l = true) : 1 ≤ l.length ∧ l.length ≤ 20 := by
  simp only [nameOk, Bool.and_eq_true, decide_eq_true_eq] at h
  exact h.1

end Go.Proofs.YtdpbnacabinlgaaGreatDoor
namespace Go.Proofs.YtdpbnacabinlgaaGreatDoor
open Go.RowKit Go.Lib

set_option maxHeartbeats 400000 in
theorem acts_calls (db : Nat) (acts : Int) (w : World) (c3 : w.cell? ⟨db, 3, none⟩ = some (.int .i64 acts)) :
    Calls Tryz.prog 59 #[.pointer (some ⟨db, 0, none⟩)] w fun e w' => e = .returned (.int .i64 acts) ∧ w = w' := by
  go_enter Tryz.func59, Tryz.ntmps59
  go_wp2
  go_ret
  exact ⟨rfl, rfl⟩

set_option maxHeartbeats 400000 in
theorem down_calls (db : Nat) (down : Bool) (w : World) (c5 : w.cell? ⟨db, 5, none⟩ = some (.bool down)) :
    Calls Tryz.prog 43 #[.pointer (some ⟨db, 0, none⟩)] w fun e w' => e = .returned (.bool down) ∧ w = w' := by
  go_enter Tryz.func43, Tryz.ntmps43
  go_wp2
  go_ret
  exact ⟨rfl, rfl⟩

set_option maxHeartbeats 400000 in
theorem fuse_calls (db : Nat) (n : Int) (fuse : Int) (w : World) (c4 : w.cell? ⟨db, 4, none⟩ = some (.int .i64 fuse)) (f4 : w.frozen? ⟨db, 4, none⟩ = false) :
    Calls Tryz.prog 19 #[.pointer (some ⟨db, 0, none⟩), .int .i64 n] w fun e w' => e = .returned (.tuple #[]) ∧ w.setCell ⟨db, 4, none⟩ (.int .i64 n) = w' := by
  go_enter Tryz.func19, Tryz.ntmps19
  go_wp2
  go_end0
  exact ⟨rfl, rfl⟩

set_option maxHeartbeats 400000 in
theorem powerless_calls (db : Nat) (fuse : Int) (down : Bool) (w : World) (c4 : w.cell? ⟨db, 4, none⟩ = some (.int .i64 fuse)) (c5 : w.cell? ⟨db, 5, none⟩ = some (.bool down)) (f5 : w.frozen? ⟨db, 5, none⟩ = false) :
    Calls Tryz.prog 81 #[.pointer (some ⟨db, 0, none⟩)] w fun e w' => e = .returned (.bool (down || fuse == 0)) ∧ w.setCell ⟨db, 5, none⟩ (.bool (down || fuse == 0)) = w' := by
  cases down
  · by_cases h : fuse = 0
    · subst h
      go_enter Tryz.func81, Tryz.ntmps81
      go_wp2
      go_ret
      exact ⟨rfl, rfl⟩
    · have hb : (fuse == 0) = false := by simpa using h
      simp only [Bool.false_or, hb]
      go_enter Tryz.func81, Tryz.ntmps81
      go_wp2
      go_ret
      exact ⟨rfl, rfl⟩
  · go_enter Tryz.func81, Tryz.ntmps81
    go_wp2
    go_ret
    exact ⟨rfl, rfl⟩

/-- What 'done' leaves of a fuse. -/
def fuseLess (f : Int) : Int := if 0 < f then f - 1 else f

set_option maxHeartbeats 400000 in
theorem done_calls (db : Nat) (acts fuse : Int) (w : World) (c3 : w.cell? ⟨db, 3, none⟩ = some (.int .i64 acts)) (c4 : w.cell? ⟨db, 4, none⟩ = some (.int .i64 fuse)) (f3 : w.frozen? ⟨db, 3, none⟩ = false) (f4 : w.frozen? ⟨db, 4, none⟩ = false)
    (ha : 0 ≤ acts) (ha2 : acts ≤ 9223372036854775000) (hf : fuse ≤ 9223372036854775807) :
    Calls Tryz.prog 82 #[.pointer (some ⟨db, 0, none⟩)] w fun e w' => e = .returned (.int .i64 0) ∧ (if 0 < fuse then (w.setCell ⟨db, 3, none⟩ (.int .i64 (acts + 1))).setCell ⟨db, 4, none⟩ (.int .i64 (fuse - 1)) else w.setCell ⟨db, 3, none⟩ (.int .i64 (acts + 1))) = w' := by
  by_cases h : 0 < fuse
  · rw [if_pos h]
    go_enter Tryz.func82, Tryz.ntmps82
    go_wp2
    go_ret
    exact ⟨rfl, rfl⟩
  · rw [if_neg h]
    go_enter Tryz.func82, Tryz.ntmps82
    go_wp2
    go_ret
    exact ⟨rfl, rfl⟩

set_option maxHeartbeats 400000 in
theorem new_calls (room : Int) (w : World) :
    Calls Tryz.prog 34 #[.int .i64 room] w fun e w' => e = .returned (.pointer (some ⟨w.heap.size + 2, 0, none⟩)) ∧
      ((w.alloc (.map #[] 0)).alloc (.map #[] 0)).alloc (.cells #[.int .i64 room, .map (some w.heap.size), .map (some (w.heap.size + 1)), .int .i64 0, .int .i64 (-1), .bool false] 75) = w' := by
  have hmm := @run_makeMap Tryz.prog
  go_enter Tryz.func34, Tryz.ntmps34
  go_wp2
  go_ret
  exact ⟨rfl, rfl⟩

set_option maxHeartbeats 1000000 in
theorem isName_calls (s : ByteArray) (w : World) (hs : s.size ≤ maxLen) :
    Calls Tryz.prog 35 #[.string s] w fun e w' => e = .returned (.bool (nameOk s.data.toList)) ∧ w = w' := by
  unfold maxLen at hs
  by_cases h1 : s.size < 1
  · rw [nameOk_short (by simpa using h1)]
    go_enter Tryz.func35, Tryz.ntmps35
    go_wp2
    go_ret
    exact ⟨rfl, rfl⟩
  by_cases h2 : 20 < s.size
  · rw [nameOk_long (by simpa using h2)]
    go_enter Tryz.func35, Tryz.ntmps35
    go_wp2
    go_ret
    exact ⟨rfl, rfl⟩
  have hsl : s.data.toList.length = s.size := by simp
  generalize hr : nameOk s.data.toList = r
  have Hr : Hid (nameOk s.data.toList = r) := hr
  have Hsl : Hid (s.data.toList.length = s.size) := hsl
  clear hr hsl
  go_enter Tryz.func35, Tryz.ntmps35
  go_wp2
  go_loop [15] (fun i => ∃ k : Nat, k ≤ s.size ∧ i = .int .i64 k ∧ Hid (∀ j, j < k → chOk (s.data.toList.getD j 0) = true)) (fun i => s.size - (intOf i).toNat)
  case atStart => exact ⟨0, Nat.zero_le _, rfl, fun j hj => absurd hj (Nat.not_lt_zero j)⟩
  case round =>
    obtain ⟨k, hk, rfl, hall⟩ := hrel
    by_cases hlt : k < s.size
    · have hg := getD_bytes s k hlt
      by_cases hc : chOk s[k] = true
      · have hall' : Hid (∀ j, j < k + 1 → chOk (s.data.toList.getD j 0) = true) := fun j hj => by
          rcases Nat.lt_succ_iff_lt_or_eq.1 hj with h | h
          · exact hall.out j h
          · subst h; rw [hg]; exact hc
        have hcc := (chOk_iff _).1 hc
        have hb : s[k].toNat < 256 := s[k].toNat_lt
        clear hc hg hall
        rcases hcc with ⟨ha, hb2⟩ | ⟨ha, hb2⟩ | ha
        · go_wp2
          all_goals
            go_round
            case rel => exact ⟨k + 1, by omega, by go_num, hall'⟩
            case measure => simp [intOf]; omega
        · go_wp2
          all_goals
            go_round
            case rel => exact ⟨k + 1, by omega, by go_num, hall'⟩
            case measure => simp [intOf]; omega
        · have ha' : 45 ≤ s[k].toNat ∧ s[k].toNat ≤ 45 := by omega
          obtain ⟨ha1, ha2⟩ := ha'
          have ht : ((s[k].toNat : Int) != 45) = false := by rw [bne_eq_false_iff_eq]; omega
          clear ha
          go_wp2
          all_goals
            go_round
            case rel => exact ⟨k + 1, by omega, by go_num, hall'⟩
            case measure => simp [intOf]; omega
      · have hbad : nameOk s.data.toList = false := nameOk_bad (k := k) (by rw [Hsl.out]; exact hlt) (by rw [hg]; simpa using hc)
        have hcc : ¬ (97 ≤ s[k].toNat ∧ s[k].toNat ≤ 122 ∨ 48 ≤ s[k].toNat ∧ s[k].toNat ≤ 57 ∨ s[k].toNat = 45) := fun h => hc ((chOk_iff _).2 h)
        have hb : s[k].toNat < 256 := s[k].toNat_lt
        have ht : ((s[k].toNat : Int) != 45) = true := by rw [bne_iff_ne]; omega
        obtain rfl : r = false := Hr.out.symm.trans hbad
        have h3 : (s[k].toNat < 48) ∨ (57 < s[k].toNat ∧ s[k].toNat < 97) ∨ 122 < s[k].toNat := by omega
        clear hc hg hall hcc hbad
        rcases h3 with h3 | ⟨h3, h4⟩ | h3
        all_goals
          go_wp2
          go_ret
          exact ⟨rfl, rfl⟩
    · obtain rfl : r = true := Hr.out.symm.trans (nameOk_all (by rw [Hsl.out]; omega) (by rw [Hsl.out]; omega) (fun j hj => hall.out j (by rw [Hsl.out] at hj; omega)))
      go_wp2
      go_ret
      exact ⟨rfl, rfl⟩

end Go.Proofs.YtdpbnacabinlgaaGreatDoor
namespace Go.Proofs.YtdpbnacabinlgaaGreatDoor
open Go.RowKit Go.Lib

theorem infoB : (Tryz.prog.info? 5).map (fun i => (i.zero, i.size, i.bytes)) = some (some (.int .u8 0), 1, 1) := by kernel_rfl

set_option maxHeartbeats 4000000 in
set_option maxRecDepth 100000 in
theorem lclone_calls (s : ByteArray) (w : World) (hlim : s.size ≤ 281474976710656) :
    Calls Tryz.prog 96 #[.string s] w fun e w' => e = .returned (.string s) ∧ Below w.heap.size w w' := by
  by_cases h0 : s.size = 0
  · have hs : s = ⟨#[]⟩ := by
      apply ByteArray.ext
      exact Array.eq_empty_of_size_eq_zero h0
    subst hs
    go_enter Tryz.func96, Tryz.ntmps96
    go_wp2
    go_ret
    exact ⟨rfl, Below.refl _ _⟩
  · obtain ⟨i0, hi, hz0, hz1, hz2⟩ := info_parts infoB
    have hinfo : (Tryz.prog.info? 5).map (·.size) = some 1 := by rw [hi]; simp [hz1]
    have hco : Tryz.prog.cellsOf 5 = 1 := by simp [Program.cellsOf, hi, hz1]
    obtain ⟨M, hM⟩ : ∃ M, M = madeCells (Value.int .u8 0).cells (((s.size : Nat) : Int).toNat * i0.size) := ⟨_, rfl⟩
    have hMs : M.size = s.size := by rw [hM, size_madeCells, hz1]; simp
    have hmk : ∀ W : World, (Instr.makeSlice 49 (.int .i64 (s.size : Int)) (.int .i64 (s.size : Int))).run Tryz.prog W = .ok (.slice (some ⟨W.heap.size, 0, none⟩) s.size s.size) (W.alloc (.cells M 5)) := fun W => by
      have h := run_make (P := Tryz.prog) W 49 5 i0 (.int .u8 0) Tryz.underlying49 hi hz0 .i64 .i64 (s.size : Int) (s.size : Int) (by omega) (by omega) (by rw [hz2]; omega) (by omega)
      rw [← hM] at h
      simpa using h
    clear hM
    have hcp := Lib.run_copy_row_string (P := Tryz.prog) (w.alloc (.cells M 5)) 49 9 3 5 w.heap.size 0 s.size s.size s M 5 Tryz.underlying49 hinfo (heap_alloc_new w _) (Nat.le_refl _) (by omega)
    obtain ⟨Y, hY⟩ : ∃ Y, Y = (M.toList.take 0 ++ Lib.byteCells s.data.toList ++ M.toList.drop (0 + s.size)).toArray := ⟨_, rfl⟩
    rw [← hY] at hcp
    have hYl : Y.toList = Lib.byteCells s.data.toList := by
      rw [hY, List.toList_toArray, List.take_zero, List.nil_append, List.drop_of_length_le (by rw [Array.length_toList]; omega), List.append_nil]
    have hYs : Y.size = s.size := by rw [← Array.length_toList, hYl, Lib.byteCells_length, ← Lib.size_eq]
    have hgY : ((w.alloc (.cells M 5)).setRow w.heap.size Y).heap[w.heap.size]? = some (.cells Y 5 (0, 0)) := setRow_heap _ _ M _ 5 (0, 0) (heap_alloc_new w _)
    have hne : s.data.toList ≠ [] := fun e => h0 (by rw [Lib.size_eq, e]; rfl)
    have hUS := Lib.run_unsafeString_row (P := Tryz.prog) ((w.alloc (.cells M 5)).setRow w.heap.size Y) 147 3 9 5 Tryz.underlying147 hco w.heap.size Y.size (by unfold World.shape?; rw [hgY]) s.data.toList hne (by rw [← Lib.size_eq]; omega) (by rw [← Lib.size_eq]; omega)
      (fun j x hx => Lib.cells_of_row hgY Y.size j _ (by rw [List.take_of_length_le (by rw [Array.length_toList]; exact Nat.le_refl _), hYl]; simp [Lib.byteCells, hx]))
    rw [← Lib.size_eq] at hUS
    clear hY
    go_enter Tryz.func96, Tryz.ntmps96
    go_wp2
    go_ret
    have hb1 : Below w.heap.size w (w.alloc (.cells M 5)) := (Below.refl _ w).alloc (Nat.le_refl _) _
    have hb2 : Below w.heap.size (w.alloc (.cells M 5)) ((w.alloc (.cells M 5)).setRow w.heap.size Y) := ⟨rfl, rfl, rfl, by simp, fun k hk => setRow_other _ _ _ _ (by omega)⟩
    exact ⟨rfl, Lib.below_freeze (hb1.trans hb2) (p := ⟨w.heap.size, 0, none⟩) (Nat.le_refl _) _⟩

set_option maxHeartbeats 400000 in
theorem sclone_calls (s : ByteArray) (w : World) (hlim : s.size ≤ 281474976710656) :
    Calls Tryz.prog 73 #[.string s] w fun e w' => e = .returned (.string s) ∧ Below w.heap.size w w' := by
  go_enter Tryz.func73, Tryz.ntmps73
  go_wp2_with fail
  refine (lclone_calls s _ hlim).mono ?_
  rintro e w1 ⟨rfl, hb⟩
  go_wp2_with fail
  go_ret
  exact ⟨rfl, hb⟩

set_option maxHeartbeats 400000 in
theorem bclone_nil (w : World) : Calls Tryz.prog 36 #[.slice none 0 0] w fun e w' => e = .returned (.slice none 0 0) ∧ w = w' := by
  have he : ∀ w : World, (binOp .eql 49 (.slice none 0 0) (.slice none 0 0)).run Tryz.prog w = .ok (.bool true) w := fun _ => by kernel_rfl
  go_enter Tryz.func36, Tryz.ntmps36
  go_wp2
  go_ret
  exact ⟨rfl, rfl⟩

set_option maxHeartbeats 1000000 in
theorem bclone_some (A : Addr) (c : Nat) (bs : List UInt8) (w : World) (hbytes : bs.length ≤ 140737488355328) (hc : ∀ j x, bs[j]? = some x → w.cell? (A.add j) = some (.int .u8 x.toNat)) :
    Calls Tryz.prog 36 #[.slice (some A) bs.length c] w fun e w' => ∃ v, e = .returned v ∧ w'.ownsRow w.heap.size 5 1 v bs.length (byteCells bs) ∧ Below w.heap.size w w' ∧ v ≠ .slice none 0 0 := by
  obtain ⟨i0, hi, hz0, hz1, hz2⟩ := info_parts infoB
  have hown0 : (w.alloc (.cells #[] 5)).ownsRow w.heap.size 5 1 (.slice (some ⟨w.heap.size, 0, none⟩) 0 0) 0 [] :=
    ⟨rfl, .inr ⟨w.heap.size, 0, #[], rfl, Nat.le_refl _, by show (w.heap.push _)[w.heap.size]? = _; simp, Nat.le_refl _, by unfold maxLen; omega, rfl, rfl⟩⟩
  have he : ∀ w : World, (binOp .eql 49 (.slice (some A) bs.length c) (.slice none 0 0)).run Tryz.prog w = .ok (.bool false) w := fun _ => by kernel_rfl
  have Hc : Hid (∀ j x, bs[j]? = some x → w.cell? (A.add j) = some (.int .u8 x.toNat)) := hc
  clear hc
  go_enter Tryz.func36, Tryz.ntmps36
  go_wp2_with (first
    | (at_builtin; refine wpList_append_own _ rfl (.tmp 5) (.tmp 6) 49 rfl w.heap.size 5 i0 (.int .u8 0) 1 1 Tryz.underlying49 hi hz0 hz1 hz2 rfl (by decide) _ _ _ rfl hown0 A bs.length c (byteCells bs) rfl (by simp [byteCells_length]) ?c1 (byteCells_one bs) (by unfold maxLen; omega) (by omega) (by simp) ?_))
  case c1 =>
    intro j u hu
    simp only [byteCells, List.getElem?_map, Option.map_eq_some_iff] at hu
    obtain ⟨x, hx, rfl⟩ := hu
    have h1 := Hc.out j x hx
    have hb : (A.add j).block < w.heap.size := World.block_lt_of_cell? _ _ h1
    rw [((Below.refl w.heap.size w).alloc (Nat.le_refl _) _).cell hb, h1]
  intro v' w1 hown' hgrow hnil
  go_wp2
  go_ret
  exact ⟨_, rfl, by simpa using hown', ((Below.refl _ _).alloc (Nat.le_refl _) _).grown hgrow (by simp) (fun k hk => by simp [Value.ownBlock] at hk; omega), by simpa using hnil⟩

end Go.Proofs.YtdpbnacabinlgaaGreatDoor
namespace Go.Proofs.YtdpbnacabinlgaaGreatDoor
open Go.RowKit Go.Lib Go.Maps

/-- How a pointer to a file reads: its block. -/
def ptrR : Value → Option (DataW Unit × List MemPlace)
  | .pointer none => some (.nil, [])
  | .pointer (some ⟨b, 0, none⟩) => some (.lit (.int .u64 b), [])
  | _ => none

/-- What a slice of bytes is told as. -/
def slD : Value → DataW Unit
  | .slice (some a) n c => .agg [.lit (.int .u64 a.block), .lit (.int .u64 n), .lit (.int .u64 c)]
  | _ => .nil

def slR : Value → Option (DataW Unit × List MemPlace)
  | .slice none 0 0 => some (.nil, [])
  | .slice (some ⟨g, 0, none⟩) n c => some (slD (.slice (some ⟨g, 0, none⟩) n c), [])
  | _ => none

theorem ptrR_inv {v : Value} {z : DataW Unit × List MemPlace} (h : ptrR v = some z) : v = .pointer none ∧ z = (.nil, []) ∨ ∃ b, v = .pointer (some ⟨b, 0, none⟩) ∧ z = (.lit (.int .u64 b), []) := by
  unfold ptrR at h
  split at h
  · left; cases h; exact ⟨rfl, rfl⟩
  · right; cases h; exact ⟨_, rfl, rfl⟩
  · cases h

theorem slR_inv {v : Value} {z : DataW Unit × List MemPlace} (h : slR v = some z) : z = (slD v, []) ∧ (v = .slice none 0 0 ∨ ∃ g n c, v = .slice (some ⟨g, 0, none⟩) n c) := by
  unfold slR at h
  split at h
  · cases h; exact ⟨rfl, Or.inl rfl⟩
  · cases h; exact ⟨rfl, Or.inr ⟨_, _, _, rfl⟩⟩
  · cases h

theorem slD_inj {v v' : Value} {z z' : DataW Unit × List MemPlace} (h : slR v = some z) (h' : slR v' = some z') (e : slD v = slD v') : v = v' := by
  rcases (slR_inv h).2 with rfl | ⟨g, n, c, rfl⟩ <;> rcases (slR_inv h').2 with rfl | ⟨g', n', c', rfl⟩
  · rfl
  · simp [slD] at e
  · simp [slD] at e
  · simp [slD] at e
    obtain ⟨e1, e2, e3⟩ := e
    obtain rfl : g = g' := by omega
    obtain rfl : n = n' := by omega
    obtain rfl : c = c' := by omega
    rfl

structure FileM where
  data : List UInt8
  synced : Nat
  fresh : Bool

structure DevM where
  room : Int
  acts : Int
  fuse : Int
  down : Bool
  files : List UInt8 → Option FileM
  gone : List UInt8 → Option (List UInt8)

/-- Who owns a block: (0) the device's own, (1) the files' map, (2) the map of what was removed, (3) the file of a name, (4) its bytes, (5) the bytes of what was removed. -/
abbrev Owner := Nat → Option (Nat × List UInt8)

def FileAt (w : World) (p : Nat) (dv : Value) (f : FileM) : Prop :=
  w.heap[p]? = some (.cells #[dv, .int .i64 f.synced, .bool f.fresh] 78 (0, 0)) ∧ w.ownsRow 0 5 1 dv f.data.length (byteCells f.data) ∧ f.synced ≤ f.data.length ∧ f.data.length ≤ 262144

structure Dev (S : Prop) (w : World) (own : Owner) (db fb rb : Nat) (D E : DataW Unit) (n : Nat) (m : DevM) : Prop where
  blk : w.heap[db]? = some (.cells #[.int .i64 m.room, .map (some fb), .map (some rb), .int .i64 m.acts, .int .i64 m.fuse, .bool m.down] 75 (0, 0))
  fmap : ∃ c, w.ownsMap Tryz.prog 9 ptrR fb c D
  rmap : ∃ c, w.ownsMap Tryz.prog 9 slR rb c E
  cnt : Maps.size D + Maps.size E ≤ n
  dom : ∀ k, Maps.has D (.string k) = (m.files k).isSome
  rdom : ∀ k, (m.gone k).isSome = true → Maps.has E (.string k) = true
  rback : S → ∀ k, Maps.has E (.string k) = true → (m.gone k).isSome = true
  fil : ∀ k f, m.files k = some f → ∃ (p : Nat) (dv : Value), (∀ z, D.atKey (.string k) z = .lit (.int .u64 p)) ∧ FileAt w p dv f ∧ own p = some (3, k) ∧ ∀ g, dv.ownBlock = some g → own g = some (4, k)
  rem : ∀ k d, m.gone k = some d → ∃ (dv : Value), (∀ z, E.atKey (.string k) z = slD dv) ∧ w.ownsRow 0 5 1 dv d.length (byteCells d) ∧ d.length ≤ 262144 ∧ ∀ g, dv.ownBlock = some g → own g = some (5, k)
  odb : own db = some (0, [])
  ofb : own fb = some (1, [])
  orb : own rb = some (2, [])
  old : ∀ b, w.heap.size ≤ b → own b = none
  rroom : -9223372036854775808 ≤ m.room ∧ m.room ≤ 9223372036854775807
  rfuse : -9223372036854775808 ≤ m.fuse ∧ m.fuse ≤ 9223372036854775807
  racts : 0 ≤ m.acts

/-- Nothing but blocks of S, and new ones, has turned. -/
structure Fr (S : Nat → Prop) (w w' : World) : Prop where
  os : w'.os = w.os
  tape : w'.tape = w.tape
  output : w'.output = w.output
  size : w.heap.size ≤ w'.heap.size
  block : ∀ k, k < w.heap.size → ¬ S k → w'.heap[k]? = w.heap[k]?

theorem Fr.refl (S : Nat → Prop) (w : World) : Fr S w w := ⟨rfl, rfl, rfl, Nat.le_refl _, fun _ _ _ => rfl⟩
theorem Fr.trans {S : Nat → Prop} {a b c : World} (h : Fr S a b) (k : Fr S b c) : Fr S a c :=
  ⟨k.os.trans h.os, k.tape.trans h.tape, k.output.trans h.output, Nat.le_trans h.size k.size, fun i hi hn => (k.block i (Nat.lt_of_lt_of_le hi h.size) hn).trans (h.block i hi hn)⟩
theorem Fr.mono {S S' : Nat → Prop} {a b : World} (h : Fr S a b) (hs : ∀ k, S k → S' k) : Fr S' a b := ⟨h.os, h.tape, h.output, h.size, fun i hi hn => h.block i hi (fun e => hn (hs i e))⟩
theorem Fr.of_below {S : Nat → Prop} {a b : World} (h : Below a.heap.size a b) : Fr S a b := ⟨h.os, h.tape, h.output, h.size, fun i hi _ => h.block i hi⟩
theorem Fr.alloc {S : Nat → Prop} {a b : World} (h : Fr S a b) (o : Obj) : Fr S a (b.alloc o) := h.trans (Fr.of_below ((Below.refl _ _).alloc (Nat.le_refl _) _))
theorem Fr.setCell {S : Nat → Prop} {a b : World} (h : Fr S a b) (p : Addr) (v : Value) (hp : p.block < a.heap.size → S p.block) : Fr S a (b.setCell p v) :=
  ⟨h.os, h.tape, h.output, by simpa [World.setCell] using h.size, fun i hi hn => (Below.heap_setCell _ _ _ _ (fun e => by subst e; exact hn (hp hi))).trans (h.block i hi hn)⟩
theorem Fr.grown {S : Nat → Prop} {a b c : World} {row : Option Nat} (h : Fr S a b) (hg : b.grownBy c row) (hr : ∀ k, row = some k → k < a.heap.size → S k) : Fr S a c :=
  ⟨hg.os.trans h.os, hg.tape.trans h.tape, hg.output.trans h.output, Nat.le_trans h.size hg.size, fun i hi hn => (hg.block i (Nat.lt_of_lt_of_le hi h.size) (fun e => hn (hr i e.symm hi))).trans (h.block i hi hn)⟩
theorem Fr.to_below {a b : World} {S : Nat → Prop} (h : Fr S a b) {B : Nat} (hB : B ≤ a.heap.size) (hs : ∀ k, k < B → ¬ S k) : Below B a b := ⟨h.os, h.tape, h.output, h.size, fun k hk => h.block k (by omega) (hs k hk)⟩
theorem Fr.cell {S : Nat → Prop} {a b : World} (h : Fr S a b) {p : Addr} {v : Value} (hc : a.cell? p = some v) (hs : ¬ S p.block) : b.cell? p = some v :=
  (World.cell?_of_block (h.block p.block (World.block_lt_of_cell? _ _ hc) hs)).trans hc

/-- A call on a device: it writes blocks that it owns, and new ones; what it didn't own, and was there, it doesn't own behind it. -/
structure Step (own own' : Owner) (w w' : World) : Prop where
  fr : Fr (fun k => own k ≠ none) w w'
  own : ∀ b, b < w.heap.size → own b = none → own' b = none

theorem Step.refl (own : Owner) (w : World) : Step own own w w := ⟨Fr.refl _ _, fun _ _ h => h⟩
theorem Step.trans {o o' o'' : Owner} {a b c : World} (h : Step o o' a b) (k : Step o' o'' b c) : Step o o'' a c :=
  ⟨⟨k.fr.os.trans h.fr.os, k.fr.tape.trans h.fr.tape, k.fr.output.trans h.fr.output, Nat.le_trans h.fr.size k.fr.size, fun i hi hn => by
      have hn' : o i = none := by cases hoi : o i with
        | none => rfl
        | some x => exact absurd (by simp [hoi]) hn
      exact (k.fr.block i (Nat.lt_of_lt_of_le hi h.fr.size) (by simp [h.own i hi hn'])).trans (h.fr.block i hi hn)⟩,
    fun i hi hn => k.own i (Nat.lt_of_lt_of_le hi h.fr.size) (h.own i hi hn)⟩
theorem Step.of_fr {o : Owner} {a b : World} (h : Fr (fun k => o k ≠ none) a b) : Step o o a b := ⟨h, fun _ _ h => h⟩

theorem ownsMap_of_block {H : Type} {P : Program} {k : TypeId} {R : Value → Option (DataW H × List MemPlace)} {w w' : World} {b n : Nat} {D : DataW H} (h : w.ownsMap P k R b n D) (hb : w'.heap[b]? = w.heap[b]?) : w'.ownsMap P k R b n D := by
  obtain ⟨es, clock, h1, r⟩ := h
  exact ⟨es, clock, hb.trans h1, r⟩

theorem ownsRow_of_block {w w' : World} {base : Nat} {e : TypeId} {size : Nat} {v : Value} {n : Nat} {xs : List Value} (h : w.ownsRow base e size v n xs) (hb : ∀ g, v.ownBlock = some g → w'.heap[g]? = w.heap[g]?) : w'.ownsRow base e size v n xs := by
  refine ⟨h.1, ?_⟩
  rcases h.2 with h2 | ⟨g, cap, cur, rfl, hg, hh, r⟩
  · exact Or.inl h2
  · exact Or.inr ⟨g, cap, cur, rfl, hg, (hb g rfl).trans hh, r⟩

theorem ownsRow_base {w : World} {base base' : Nat} {e : TypeId} {size : Nat} {v : Value} {n : Nat} {xs : List Value} (h : w.ownsRow base e size v n xs) (hb : base' ≤ base) : w.ownsRow base' e size v n xs := by
  refine ⟨h.1, ?_⟩
  rcases h.2 with h2 | ⟨g, cap, cur, hv, hg, r⟩
  · exact Or.inl h2
  · exact Or.inr ⟨g, cap, cur, hv, Nat.le_trans hb hg, r⟩

theorem ownsRow_slR {w : World} {base : Nat} {e : TypeId} {size : Nat} {v : Value} {n : Nat} {xs : List Value} (h : w.ownsRow base e size v n xs) : slR v = some (slD v, []) := by
  rcases h.2 with ⟨rfl, _⟩ | ⟨g, cap, cur, rfl, _⟩ <;> rfl

theorem FileAt.kept {w w' : World} {p : Nat} {dv : Value} {f : FileM} (h : FileAt w p dv f) (hp : w'.heap[p]? = w.heap[p]?) (hg : ∀ g, dv.ownBlock = some g → w'.heap[g]? = w.heap[g]?) : FileAt w' p dv f :=
  ⟨hp.trans h.1, ownsRow_of_block h.2.1 hg, h.2.2⟩

section
variable {S : Prop} {w w' : World} {own own' : Owner} {db fb rb : Nat} {D E : DataW Unit} {n : Nat} {m : DevM}

/-- Blocks that the device doesn't own are written. -/
theorem Dev.kept (h : Dev S w own db fb rb D E n m) (hs : w.heap.size ≤ w'.heap.size) (hb : ∀ b, own b ≠ none → w'.heap[b]? = w.heap[b]?) : Dev S w' own db fb rb D E n m where
  blk := (hb db (by simp [h.odb])).trans h.blk
  fmap := let ⟨c, hc⟩ := h.fmap; ⟨c, ownsMap_of_block hc (hb fb (by simp [h.ofb]))⟩
  rmap := let ⟨c, hc⟩ := h.rmap; ⟨c, ownsMap_of_block hc (hb rb (by simp [h.orb]))⟩
  cnt := h.cnt
  dom := h.dom
  rdom := h.rdom
  rback := h.rback
  fil k f hf := by
    obtain ⟨p, dv, h1, h2, h3, h4⟩ := h.fil k f hf
    exact ⟨p, dv, h1, h2.kept (hb p (by simp [h3])) (fun g hg => hb g (by simp [h4 g hg])), h3, h4⟩
  rem k d hd := by
    obtain ⟨dv, h1, h2, h3, h4⟩ := h.rem k d hd
    exact ⟨dv, h1, ownsRow_of_block h2 (fun g hg => hb g (by simp [h4 g hg])), h3, h4⟩
  odb := h.odb
  ofb := h.ofb
  orb := h.orb
  old b hb' := h.old b (Nat.le_trans hs hb')
  rroom := h.rroom
  rfuse := h.rfuse
  racts := h.racts

theorem Dev.lt (h : Dev S w own db fb rb D E n m) {b : Nat} (hb : own b ≠ none) : b < w.heap.size := by
  rcases Nat.lt_or_ge b w.heap.size with h1 | h1
  · exact h1
  · exact absurd (h.old b h1) hb

/-- A step that writes none of what is owned. -/
theorem Dev.fr {T : Nat → Prop} (h : Dev S w own db fb rb D E n m) (hf : Fr T w w') (hS : ∀ b, own b ≠ none → ¬ T b) : Dev S w' own db fb rb D E n m :=
  h.kept hf.size (fun b hb => hf.block b (h.lt hb) (hS b hb))

/-- The device's own block is written. -/
theorem Dev.setBlk (h : Dev S w own db fb rb D E n m) (hs : w.heap.size ≤ w'.heap.size) (hb : ∀ b, own b ≠ none → b ≠ db → w'.heap[b]? = w.heap[b]?) {acts fuse : Int} {down : Bool}
    (hdb : w'.heap[db]? = some (.cells #[.int .i64 m.room, .map (some fb), .map (some rb), .int .i64 acts, .int .i64 fuse, .bool down] 75 (0, 0))) (ha : 0 ≤ acts) (hf : -9223372036854775808 ≤ fuse ∧ fuse ≤ 9223372036854775807) :
    Dev S w' own db fb rb D E n { m with acts := acts, fuse := fuse, down := down } where
  blk := hdb
  fmap := let ⟨c, hc⟩ := h.fmap; ⟨c, ownsMap_of_block hc (hb fb (by simp [h.ofb]) (fun e => by have := h.ofb; rw [e, h.odb] at this; simp at this))⟩
  rmap := let ⟨c, hc⟩ := h.rmap; ⟨c, ownsMap_of_block hc (hb rb (by simp [h.orb]) (fun e => by have := h.orb; rw [e, h.odb] at this; simp at this))⟩
  cnt := h.cnt
  dom := h.dom
  rdom := h.rdom
  rback := h.rback
  fil k f hf := by
    obtain ⟨p, dv, h1, h2, h3, h4⟩ := h.fil k f hf
    exact ⟨p, dv, h1, h2.kept (hb p (by simp [h3]) (fun e => by rw [e, h.odb] at h3; simp at h3)) (fun g hg => hb g (by simp [h4 g hg]) (fun e => by have := h4 g hg; rw [e, h.odb] at this; simp at this)), h3, h4⟩
  rem k d hd := by
    obtain ⟨dv, h1, h2, h3, h4⟩ := h.rem k d hd
    exact ⟨dv, h1, ownsRow_of_block h2 (fun g hg => hb g (by simp [h4 g hg]) (fun e => by have := h4 g hg; rw [e, h.odb] at this; simp at this)), h3, h4⟩
  odb := h.odb
  ofb := h.ofb
  orb := h.orb
  old b hb' := h.old b (Nat.le_trans hs hb')
  rroom := h.rroom
  rfuse := hf
  racts := ha

theorem cell_of_blk {b k : Nat} {cs : Array Value} {e : TypeId} {fr : Nat × Nat} (h : w.heap[b]? = some (.cells cs e fr)) {v : Value} (hv : cs[k]? = some v) : w.cell? ⟨b, k, none⟩ = some v := by simp [World.cell?, h, hv]
theorem frozen_of_blk {b k : Nat} {cs : Array Value} {e : TypeId} (h : w.heap[b]? = some (.cells cs e (0, 0))) : w.frozen? ⟨b, k, none⟩ = false := by simp [World.frozen?, h]
theorem setCell_blk {b k : Nat} {cs : Array Value} {e : TypeId} {fr : Nat × Nat} (h : w.heap[b]? = some (.cells cs e fr)) (v : Value) : (w.setCell ⟨b, k, none⟩ v).heap[b]? = some (.cells (cs.setIfInBounds k v) e fr) := by
  simp [World.setCell, Array.getElem?_modify, h]

theorem Dev.c0 (h : Dev S w own db fb rb D E n m) : w.cell? ⟨db, 0, none⟩ = some (.int .i64 m.room) := cell_of_blk h.blk rfl
theorem Dev.c1 (h : Dev S w own db fb rb D E n m) : w.cell? ⟨db, 1, none⟩ = some (.map (some fb)) := cell_of_blk h.blk rfl
theorem Dev.c2 (h : Dev S w own db fb rb D E n m) : w.cell? ⟨db, 2, none⟩ = some (.map (some rb)) := cell_of_blk h.blk rfl
theorem Dev.c3 (h : Dev S w own db fb rb D E n m) : w.cell? ⟨db, 3, none⟩ = some (.int .i64 m.acts) := cell_of_blk h.blk rfl
theorem Dev.c4 (h : Dev S w own db fb rb D E n m) : w.cell? ⟨db, 4, none⟩ = some (.int .i64 m.fuse) := cell_of_blk h.blk rfl
theorem Dev.c5 (h : Dev S w own db fb rb D E n m) : w.cell? ⟨db, 5, none⟩ = some (.bool m.down) := cell_of_blk h.blk rfl
theorem Dev.f (h : Dev S w own db fb rb D E n m) (k : Nat) : w.frozen? ⟨db, k, none⟩ = false := frozen_of_blk h.blk

/-- 'powerless' of a device. -/
theorem Dev.powerless (h : Dev S w own db fb rb D E n m) :
    Calls Tryz.prog 81 #[.pointer (some ⟨db, 0, none⟩)] w fun e w' => e = .returned (.bool (m.down || m.fuse == 0)) ∧ Dev S w' own db fb rb D E n { m with down := m.down || m.fuse == 0 } ∧ Step own own w w' := by
  refine (powerless_calls db m.fuse m.down w h.c4 h.c5 (h.f 5)).mono ?_
  rintro e w' ⟨he, rfl⟩
  refine ⟨he, ?_, Step.of_fr ((Fr.refl _ _).setCell _ _ (fun _ => by simp [h.odb]))⟩
  exact h.setBlk (by simp [World.setCell]) (fun b _ hne => Below.heap_setCell _ _ _ _ hne) (setCell_blk h.blk _) h.racts h.rfuse

/-- 'done' of a device. -/
theorem Dev.done (h : Dev S w own db fb rb D E n m) (ha : m.acts ≤ 9223372036854775000) :
    Calls Tryz.prog 82 #[.pointer (some ⟨db, 0, none⟩)] w fun e w' => e = .returned (.int .i64 0) ∧ Dev S w' own db fb rb D E n { m with acts := m.acts + 1, fuse := fuseLess m.fuse } ∧ Step own own w w' := by
  have hr := h.rfuse
  have hac := h.racts
  refine (done_calls db m.acts m.fuse w h.c3 h.c4 (h.f 3) (h.f 4) h.racts ha h.rfuse.2).mono ?_
  rintro e w' ⟨he, rfl⟩
  refine ⟨he, ?_, ?_⟩
  · by_cases h0 : 0 < m.fuse
    · rw [if_pos h0]
      have e1 : fuseLess m.fuse = m.fuse - 1 := by simp [fuseLess, h0]
      rw [e1]
      exact h.setBlk (by simp [World.setCell]) (fun b _ hne => (Below.heap_setCell _ _ _ _ hne).trans (Below.heap_setCell _ _ _ _ hne)) (setCell_blk (setCell_blk h.blk _) _) (by omega) (by omega)
    · rw [if_neg h0]
      have e1 : fuseLess m.fuse = m.fuse := by simp [fuseLess, h0]
      rw [e1]
      exact h.setBlk (by simp [World.setCell]) (fun b _ hne => Below.heap_setCell _ _ _ _ hne) (setCell_blk h.blk _) (by omega) (by omega)
  · by_cases h0 : 0 < m.fuse
    · rw [if_pos h0]
      exact Step.of_fr (((Fr.refl _ _).setCell _ _ (fun _ => by simp [h.odb])).setCell _ _ (fun _ => by simp [h.odb]))
    · rw [if_neg h0]
      exact Step.of_fr ((Fr.refl _ _).setCell _ _ (fun _ => by simp [h.odb]))

end
end Go.Proofs.YtdpbnacabinlgaaGreatDoor
namespace Go.Proofs.YtdpbnacabinlgaaGreatDoor
open Go.RowKit Go.Lib Go.Maps

theorem lawS : Keyed Tryz.prog 9 := string_keyed Tryz.underlying9
theorem zeroF (w : World) : (zeroValue 71).run Tryz.prog w = .ok (.pointer none) w := by kernel_rfl
theorem zeroB (w : World) : (zeroValue 49).run Tryz.prog w = .ok (.slice none 0 0) w := by kernel_rfl

section
variable {S : Prop} {w w' : World} {own own' : Owner} {db fb rb : Nat} {D E : DataW Unit} {n : Nat} {m : DevM}

theorem Dev.look_none (h : Dev S w own db fb rb D E n m) {s : ByteArray} (hs : s.size ≤ maxLen) (hf : m.files s.data.toList = none) :
    (Instr.lookup 72 (.map (some fb)) (.string s) false).run Tryz.prog w = .ok (.pointer none) w := by
  obtain ⟨c, hc⟩ := h.fmap
  obtain ⟨v, ps, hr, hv⟩ := hc.lookup lawS Tryz.underlying72 (zeroF w) (zd := .nil) (zp := []) rfl (WideMaps.keyOf_string_mk Tryz.underlying9 hs)
  have hd := h.dom s.data.toList
  rw [hf] at hd
  rw [atKey_of_not_has (by simpa using hd)] at hv
  rcases ptrR_inv hv with ⟨rfl, _⟩ | ⟨b, rfl, hb⟩
  · exact hr
  · simp at hb

theorem Dev.look_some (h : Dev S w own db fb rb D E n m) {s : ByteArray} (hs : s.size ≤ maxLen) {f : FileM} (hf : m.files s.data.toList = some f) :
    ∃ (p : Nat) (dv : Value), (Instr.lookup 72 (.map (some fb)) (.string s) false).run Tryz.prog w = .ok (.pointer (some ⟨p, 0, none⟩)) w ∧ (∀ z, D.atKey (.string s.data.toList) z = .lit (.int .u64 p)) ∧ FileAt w p dv f ∧ own p = some (3, s.data.toList) ∧ ∀ g, dv.ownBlock = some g → own g = some (4, s.data.toList) := by
  obtain ⟨c, hc⟩ := h.fmap
  obtain ⟨p, dv, h1, h2, h3, h4⟩ := h.fil _ _ hf
  obtain ⟨v, ps, hr, hv⟩ := hc.lookup lawS Tryz.underlying72 (zeroF w) (zd := .nil) (zp := []) rfl (WideMaps.keyOf_string_mk Tryz.underlying9 hs)
  rw [h1] at hv
  rcases ptrR_inv hv with ⟨rfl, hb⟩ | ⟨b, rfl, hb⟩
  · simp at hb
  · simp at hb
    obtain rfl : p = b := by omega
    exact ⟨p, dv, hr, h1, h2, h3, h4⟩

set_option maxHeartbeats 400000 in
set_option maxRecDepth 100000 in
theorem find_bad (p : Addr) (s : ByteArray) (w : World) (hs : s.size ≤ maxLen) (hn : nameOk s.data.toList = false) :
    Calls Tryz.prog 71 #[.pointer (some p), .string s] w fun e w' => e = .returned (.tuple #[.pointer none, .int .i64 1]) ∧ w = w' := by
  have h0 := isName_calls s w hs
  rw [hn] at h0
  clear hn
  go_enter Tryz.func71, Tryz.ntmps71
  go_wp2_with fail
  refine h0.mono ?_
  rintro e w1 ⟨rfl, rfl⟩
  go_wp2_with fail
  go_ret2
  exact ⟨rfl, rfl⟩

set_option maxHeartbeats 400000 in
set_option maxRecDepth 100000 in
theorem Dev.find_none (h : Dev S w own db fb rb D E n m) {s : ByteArray} (hs : s.size ≤ maxLen) (hn : nameOk s.data.toList = true) (hf : m.files s.data.toList = none) :
    Calls Tryz.prog 71 #[.pointer (some ⟨db, 0, none⟩), .string s] w fun e w' => e = .returned (.tuple #[.pointer none, .int .i64 12]) ∧ w = w' := by
  have h0 := isName_calls s w hs
  rw [hn] at h0
  have hl := h.look_none hs hf
  have c1 := h.c1
  clear hn hf h
  go_enter Tryz.func71, Tryz.ntmps71
  go_wp2_with fail
  refine h0.mono ?_
  rintro e w1 ⟨rfl, rfl⟩
  go_wp2_with fail
  go_ret2
  exact ⟨rfl, rfl⟩

set_option maxHeartbeats 400000 in
set_option maxRecDepth 100000 in
theorem Dev.find_some (h : Dev S w own db fb rb D E n m) {s : ByteArray} (hs : s.size ≤ maxLen) (hn : nameOk s.data.toList = true) {p : Nat} (hl : (Instr.lookup 72 (.map (some fb)) (.string s) false).run Tryz.prog w = .ok (.pointer (some ⟨p, 0, none⟩)) w) :
    Calls Tryz.prog 71 #[.pointer (some ⟨db, 0, none⟩), .string s] w fun e w' => e = .returned (.tuple #[.pointer (some ⟨p, 0, none⟩), .int .i64 0]) ∧ w = w' := by
  have h0 := isName_calls s w hs
  rw [hn] at h0
  have c1 := h.c1
  clear hn h
  go_enter Tryz.func71, Tryz.ntmps71
  go_wp2_with fail
  refine h0.mono ?_
  rintro e w1 ⟨rfl, rfl⟩
  go_wp2_with fail
  go_ret2
  exact ⟨rfl, rfl⟩

/-- What holds asks. -/
def holdsB (sz : Nat) (fo : Option FileM) (k : Int) : Bool :=
  match fo with
  | none => decide (sz < 64) && decide (k ≤ 262144)
  | some f => decide (k ≤ 262144 - f.data.length)

set_option maxHeartbeats 400000 in
set_option maxRecDepth 100000 in
theorem Dev.holds_none (h : Dev S w own db fb rb D E n m) {s : ByteArray} (hs : s.size ≤ maxLen) (hf : m.files s.data.toList = none) (k : Int) :
    Calls Tryz.prog 105 #[.pointer (some ⟨db, 0, none⟩), .string s, .int .i64 k] w fun e w' => e = .returned (.bool (decide ((Maps.size D : Int) < 64) && decide (k ≤ 262144))) ∧ w = w' := by
  have hl := h.look_none hs hf
  have c1 := h.c1
  obtain ⟨c, hc⟩ := h.fmap
  clear hf h
  have Hz : Hid (Maps.size D = Maps.size D) := rfl
  obtain ⟨sz, hsz⟩ : ∃ sz, sz = Maps.size D := ⟨_, rfl⟩
  rw [← hsz]
  have Hsz : Hid (sz = Maps.size D) := hsz
  clear hsz Hz
  by_cases h1 : sz < 64
  · by_cases h2 : k ≤ 262144
    · have e1 : (decide ((sz : Int) < 64) && decide (k ≤ 262144)) = true := by simp [h2]; omega
      rw [e1]; clear e1
      go_enter Tryz.func105, Tryz.ntmps105
      go_wp2_with (first
        | (at_len; refine wpList_len_own _ rfl _ 72 rfl 9 71 Tryz.underlying72 ptrR fb c D rfl hc ?_; rw [← Hsz.out])
        | go_in)
      go_ret
      exact ⟨rfl, rfl⟩
    · have e1 : (decide ((sz : Int) < 64) && decide (k ≤ 262144)) = false := by simp [h2]
      rw [e1]; clear e1
      go_enter Tryz.func105, Tryz.ntmps105
      go_wp2_with (first
        | (at_len; refine wpList_len_own _ rfl _ 72 rfl 9 71 Tryz.underlying72 ptrR fb c D rfl hc ?_; rw [← Hsz.out])
        | go_in)
      go_ret
      exact ⟨rfl, rfl⟩
  · have e1 : (decide ((sz : Int) < 64) && decide (k ≤ 262144)) = false := by
      have : ¬ (sz : Int) < 64 := by omega
      simp [this]
    rw [e1]; clear e1
    go_enter Tryz.func105, Tryz.ntmps105
    go_wp2_with (first
      | (at_len; refine wpList_len_own _ rfl _ 72 rfl 9 71 Tryz.underlying72 ptrR fb c D rfl hc ?_; rw [← Hsz.out])
      | go_in)
    go_ret
    exact ⟨rfl, rfl⟩

set_option maxHeartbeats 400000 in
set_option maxRecDepth 100000 in
theorem Dev.holds_some (h : Dev S w own db fb rb D E n m) {s : ByteArray} (hs : s.size ≤ maxLen) {f : FileM} (hf : m.files s.data.toList = some f) (k : Int) :
    Calls Tryz.prog 105 #[.pointer (some ⟨db, 0, none⟩), .string s, .int .i64 k] w fun e w' => e = .returned (.bool (decide (k ≤ 262144 - f.data.length))) ∧ w = w' := by
  obtain ⟨p, dv, hl, _, ⟨hfb, hrow, _, hlen⟩, _⟩ := h.look_some hs hf
  have c1 := h.c1
  have p0 : w.cell? ⟨p, 0, none⟩ = some dv := cell_of_blk hfb rfl
  have hdv : ∃ a c, dv = .slice a f.data.length c := by
    rcases hrow.2 with ⟨rfl, h0⟩ | ⟨g, cap, cur, rfl, _⟩
    · exact ⟨_, _, by rw [h0]⟩
    · exact ⟨_, _, rfl⟩
  obtain ⟨a, c, rfl⟩ := hdv
  clear hf h hfb hrow
  generalize f.data.length = l at *
  go_enter Tryz.func105, Tryz.ntmps105
  go_wp2
  go_ret
  exact ⟨rfl, rfl⟩

end
end Go.Proofs.YtdpbnacabinlgaaGreatDoor
namespace Go.Proofs.YtdpbnacabinlgaaGreatDoor
open Go.RowKit Go.Lib Go.Maps

/-- bytes.Clone of a row that is owned: a row of the same bytes in new memory. -/
theorem bclone_row {w : World} {base : Nat} {dv : Value} {d : List UInt8} (h : w.ownsRow base 5 1 dv d.length (byteCells d)) (hl : d.length ≤ 140737488355328) :
    Calls Tryz.prog 36 #[dv] w fun e w' => ∃ v, e = .returned v ∧ w'.ownsRow w.heap.size 5 1 v d.length (byteCells d) ∧ Below w.heap.size w w' := by
  have hcells := fun g hg => h.cells (g := g) hg
  rcases h.2 with ⟨rfl, h0⟩ | ⟨g, cap, cur, rfl, _⟩
  · refine (bclone_nil w).mono ?_
    rintro e w' ⟨rfl, rfl⟩
    obtain rfl : d = [] := List.eq_nil_of_length_eq_zero h0
    exact ⟨_, rfl, World.ownsRow_nil _ _ _ _, Below.refl _ _⟩
  · refine (bclone_some ⟨g, 0, none⟩ cap d w hl (fun j x hx => hcells g rfl j _ (by simp [byteCells, hx]))).mono ?_
    rintro e w' ⟨v, rfl, h1, h2, _⟩
    exact ⟨_, rfl, h1, h2⟩

section
variable {S : Prop} {w w' : World} {own own' : Owner} {db fb rb : Nat} {D E : DataW Unit} {n : Nat} {m : DevM}

set_option maxHeartbeats 400000 in
set_option maxRecDepth 100000 in
theorem Dev.read_down (h : Dev S w own db fb rb D E n m) (hd : m.down = true) (s : ByteArray) :
    Calls Tryz.prog 31 #[.pointer (some ⟨db, 0, none⟩), .string s] w fun e w' => e = .returned (.tuple #[.slice none 0 0, .int .i64 13]) ∧ w = w' := by
  have c5 := h.c5
  rw [hd] at c5
  clear hd h
  go_enter Tryz.func31, Tryz.ntmps31
  go_wp2_with fail
  go_ret2
  exact ⟨rfl, rfl⟩

set_option maxHeartbeats 400000 in
set_option maxRecDepth 100000 in
theorem Dev.read_bad (h : Dev S w own db fb rb D E n m) (hd : m.down = false) {s : ByteArray} (hs : s.size ≤ maxLen) (hn : nameOk s.data.toList = false) :
    Calls Tryz.prog 31 #[.pointer (some ⟨db, 0, none⟩), .string s] w fun e w' => e = .returned (.tuple #[.slice none 0 0, .int .i64 1]) ∧ w = w' := by
  have c5 := h.c5
  rw [hd] at c5
  have h1 := find_bad ⟨db, 0, none⟩ s w hs hn
  clear hd h hn
  go_enter Tryz.func31, Tryz.ntmps31
  go_wp2_with fail
  refine h1.mono ?_
  rintro e w1 ⟨rfl, rfl⟩
  go_wp2_with fail
  go_ret2
  exact ⟨rfl, rfl⟩

set_option maxHeartbeats 400000 in
set_option maxRecDepth 100000 in
theorem Dev.read_none (h : Dev S w own db fb rb D E n m) (hd : m.down = false) {s : ByteArray} (hs : s.size ≤ maxLen) (hn : nameOk s.data.toList = true) (hf : m.files s.data.toList = none) :
    Calls Tryz.prog 31 #[.pointer (some ⟨db, 0, none⟩), .string s] w fun e w' => e = .returned (.tuple #[.slice none 0 0, .int .i64 12]) ∧ w = w' := by
  have c5 := h.c5
  rw [hd] at c5
  have h1 := h.find_none hs hn hf
  clear hd h hn hf
  go_enter Tryz.func31, Tryz.ntmps31
  go_wp2_with fail
  refine h1.mono ?_
  rintro e w1 ⟨rfl, rfl⟩
  go_wp2_with fail
  go_ret2
  exact ⟨rfl, rfl⟩

set_option maxHeartbeats 400000 in
set_option maxRecDepth 100000 in
theorem Dev.read_some (h : Dev S w own db fb rb D E n m) (hd : m.down = false) {s : ByteArray} (hs : s.size ≤ maxLen) (hn : nameOk s.data.toList = true) {f : FileM} (hf : m.files s.data.toList = some f) :
    Calls Tryz.prog 31 #[.pointer (some ⟨db, 0, none⟩), .string s] w fun e w' => ∃ v, e = .returned (.tuple #[v, .int .i64 0]) ∧ w'.ownsRow w.heap.size 5 1 v f.data.length (byteCells f.data) ∧ Below w.heap.size w w' := by
  have c5 := h.c5
  rw [hd] at c5
  obtain ⟨p, dv, hl, _, ⟨hfb, hrow, _, hlen⟩, _⟩ := h.look_some hs hf
  have h1 := h.find_some hs hn hl
  have p0 : w.cell? ⟨p, 0, none⟩ = some dv := cell_of_blk hfb rfl
  have hc := bclone_row hrow (by omega)
  clear hd h hn hf hl hfb hrow
  go_enter Tryz.func31, Tryz.ntmps31
  go_wp2_with fail
  refine h1.mono ?_
  rintro e w1 ⟨rfl, rfl⟩
  go_wp2_with fail
  refine hc.mono ?_
  rintro e w2 ⟨v, rfl, h2, h3⟩
  go_wp2_with fail
  go_ret2
  exact ⟨_, rfl, h2, h3⟩

end

/-- What Read answers: the bytes and the error's number. -/
def readM (m : DevM) (k : List UInt8) : List UInt8 × Int :=
  if m.down then ([], 13) else if nameOk k then (match m.files k with | none => ([], 12) | some f => (f.data, 0)) else ([], 1)

theorem Dev.read {S : Prop} {w : World} {own : Owner} {db fb rb : Nat} {D E : DataW Unit} {n : Nat} {m : DevM} (h : Dev S w own db fb rb D E n m) {s : ByteArray} (hs : s.size ≤ maxLen) :
    Calls Tryz.prog 31 #[.pointer (some ⟨db, 0, none⟩), .string s] w fun e w' => ∃ v, e = .returned (.tuple #[v, .int .i64 (readM m s.data.toList).2]) ∧ w'.ownsRow w.heap.size 5 1 v (readM m s.data.toList).1.length (byteCells (readM m s.data.toList).1) ∧ Below w.heap.size w w' := by
  have nil : ∀ (c : Int), readM m s.data.toList = ([], c) → Calls Tryz.prog 31 #[.pointer (some ⟨db, 0, none⟩), .string s] w (fun e w' => e = .returned (.tuple #[.slice none 0 0, .int .i64 c]) ∧ w = w') → Calls Tryz.prog 31 #[.pointer (some ⟨db, 0, none⟩), .string s] w fun e w' => ∃ v, e = .returned (.tuple #[v, .int .i64 (readM m s.data.toList).2]) ∧ w'.ownsRow w.heap.size 5 1 v (readM m s.data.toList).1.length (byteCells (readM m s.data.toList).1) ∧ Below w.heap.size w w' := by
    intro c hc hcalls
    refine hcalls.mono ?_
    rintro e w' ⟨rfl, rfl⟩
    rw [hc]
    exact ⟨_, rfl, World.ownsRow_nil _ _ _ _, Below.refl _ _⟩
  cases hd : m.down with
  | true => exact nil 13 (by simp [readM, hd]) (h.read_down hd s)
  | false =>
    cases hn : nameOk s.data.toList with
    | false => exact nil 1 (by simp [readM, hd, hn]) (h.read_bad hd hs hn)
    | true =>
      cases hf : m.files s.data.toList with
      | none => exact nil 12 (by simp [readM, hd, hn, hf]) (h.read_none hd hs hn hf)
      | some f =>
        have e1 : readM m s.data.toList = (f.data, 0) := by simp [readM, hd, hn, hf]
        rw [e1]
        exact h.read_some hd hs hn hf

end Go.Proofs.YtdpbnacabinlgaaGreatDoor
namespace Go.Proofs.YtdpbnacabinlgaaGreatDoor
open Go.RowKit Go.Lib Go.Maps

/-- The entries of a map's reading. -/
def entsOf (D : DataW Unit) : List (Lit × DataW Unit) := match D with | .map es => es | _ => []

def sumL (g : Lit → Nat) (es : List (Lit × DataW Unit)) : Nat := (es.map fun p => g p.1).sum
def partL (g : Lit → Nat) (left : Lit → Bool) (es : List (Lit × DataW Unit)) : Nat := sumL g (es.filter fun p => !left p.1)

theorem partL_start (g : Lit → Nat) (es : List (Lit × DataW Unit)) (hk : ∀ p ∈ es, WideAt.IsKeyLit p.1) : partL g (Maps.has (.map es)) es = 0 := by
  have e1 : (es.filter fun p => !Maps.has (.map es) p.1) = [] := by
    rw [List.filter_eq_nil_iff]
    intro p hp
    have : Maps.has (.map es) p.1 = true := List.any_eq_true.2 ⟨p, hp, WideAt.sameKey_self (hk p hp)⟩
    simp [this]
  simp [partL, sumL, e1]

theorem partL_end (g : Lit → Nat) {left : Lit → Bool} (es : List (Lit × DataW Unit)) (hl : ∀ k, left k = false) : partL g left es = sumL g es := by
  have e1 : (es.filter fun p => !left p.1) = es := List.filter_eq_self.2 (fun p _ => by simp [hl])
  rw [partL, e1]

theorem partL_miss (g : Lit → Nat) (left : Lit → Bool) (kl : Lit) : ∀ es : List (Lit × DataW Unit), (∀ p ∈ es, p.1 ≠ kl) → partL g (fun z => left z && !z.sameKey kl) es = partL g left es
  | es, h => by
    have e1 : (es.filter fun p => !(left p.1 && !p.1.sameKey kl)) = es.filter fun p => !left p.1 := List.filter_congr (fun p hp => by rw [Maps.sameKey_ne (h p hp)]; simp)
    simp only [partL, e1]

theorem partL_step (g : Lit → Nat) (left : Lit → Bool) (kl : Lit) (hkl : WideAt.IsKeyLit kl) (hlk : left kl = true) : ∀ es : List (Lit × DataW Unit), es.Pairwise (fun p q => p.1 ≠ q.1) → (∃ p ∈ es, p.1 = kl) →
    partL g (fun z => left z && !z.sameKey kl) es = partL g left es + g kl
  | [], _, h => by obtain ⟨p, hp, _⟩ := h; simp at hp
  | x :: r, hp, h => by
    obtain ⟨h1, h2⟩ := List.pairwise_cons.1 hp
    by_cases hx : x.1 = kl
    · have hr : ∀ p ∈ r, p.1 ≠ kl := fun p hpr e => h1 p hpr (hx.trans e.symm)
      have ih := partL_miss g left kl r hr
      simp only [partL, sumL] at ih ⊢
      rw [List.filter_cons_of_pos (by rw [hx, WideAt.sameKey_self hkl]; simp), List.filter_cons_of_neg (by rw [hx, hlk]; simp)]
      simp only [List.map_cons, List.sum_cons, hx]
      rw [ih]
      omega
    · have hr : ∃ p ∈ r, p.1 = kl := by
        obtain ⟨p, hp1, hp2⟩ := h
        rcases List.mem_cons.1 hp1 with e | e
        · exact absurd (e ▸ hp2) hx
        · exact ⟨p, e, hp2⟩
      have ih := partL_step g left kl hkl hlk r h2 hr
      have hxs := Maps.sameKey_ne hx
      simp only [partL, sumL] at ih ⊢
      by_cases hlx : left x.1 = true
      · rw [List.filter_cons_of_neg (by rw [hlx, hxs]; simp), List.filter_cons_of_neg (by rw [hlx]; simp)]
        exact ih
      · rw [List.filter_cons_of_pos (by simp [hlx]), List.filter_cons_of_pos (by simp [hlx])]
        simp only [List.map_cons, List.sum_cons]
        rw [ih]
        omega

theorem sumL_le (g : Lit → Nat) (B : Nat) (hB : ∀ l, g l ≤ B) : ∀ es : List (Lit × DataW Unit), sumL g es ≤ es.length * B
  | [] => by simp [sumL]
  | x :: r => by
    have := sumL_le g B hB r
    have h2 := hB x.1
    simp only [sumL, List.map_cons, List.sum_cons, List.length_cons, Nat.add_mul, Nat.one_mul] at this ⊢
    omega

theorem partL_le (g : Lit → Nat) (left : Lit → Bool) (B : Nat) (hB : ∀ l, g l ≤ B) (es : List (Lit × DataW Unit)) : partL g left es ≤ es.length * B :=
  Nat.le_trans (sumL_le g B hB _) (Nat.mul_le_mul_right _ (List.length_filter_le _ _))

/-- How many bytes the file of a name has. -/
def flen (files : List UInt8 → Option FileM) : Lit → Nat
  | .string k => (match files k with | some f => min f.data.length 262144 | none => 0)
  | _ => 0

theorem flen_le (files : List UInt8 → Option FileM) (l : Lit) : flen files l ≤ 262144 := by
  unfold flen
  split
  · split
    · exact Nat.min_le_right _ _
    · omega
  · omega

/-- All bytes of all files of a map's reading. -/
def usedD (D : DataW Unit) (files : List UInt8 → Option FileM) : Nat := sumL (flen files) (entsOf D)

theorem keyOf_str_inv {key : Value} {kl : Lit} (h : keyOf Tryz.prog 9 key = some kl) : ∃ x : ByteArray, key = .string x ∧ kl = .string x.data.toList ∧ x.size ≤ maxLen := by
  have hk := Tryz.underlying9
  cases key <;> simp [keyOf, hk, mapKey] at h
  exact ⟨_, rfl, h.2.symm, h.1⟩

/-- A range's step over the files' map, each entry of which is a pointer. -/
theorem wpList_next_files {ops : Array Oper} {rest : List Oper} {o : Oper} {a : Act} {Q : Exit → Act → World → Prop} (w : World)
    (hg : o.guard = none) (it : Operand) (hop : o.op = Op.next it false) (b r n : Nat) (D : DataW Unit) (left : Lit → Bool) (cnt : Nat)
    (hit : a.eval it = .pointer (some ⟨r, 0, none⟩)) (h : w.ranges Tryz.prog 9 ptrR b r n D left cnt)
    (hptr : ∀ k, left (.string k) = true → ∃ p : Nat, ∀ z, D.atKey (.string k) z = .lit (.int .u64 p))
    (hDone : cnt = 0 → (∀ kl, left kl = false) → wpList Tryz.prog ops Q rest (a.put o.dst (.tuple #[.bool false])) w)
    (hMore : ∀ (x : ByteArray) (p : Nat) (w' : World) (cnt' : Nat), x.size ≤ maxLen → left (.string x.data.toList) = true → (∀ z, D.atKey (.string x.data.toList) z = .lit (.int .u64 p)) → w'.ranges Tryz.prog 9 ptrR b r n D (fun z => left z && !z.sameKey (.string x.data.toList)) cnt' → cnt' < cnt →
      w.grownBy w' (some r) → w'.heap.size = w.heap.size → (Instr.entry (.pointer (some ⟨r, 0, none⟩))).run Tryz.prog w' = .ok (.tuple #[.string x, .pointer (some ⟨p, 0, none⟩)]) w' → wpList Tryz.prog ops Q rest (a.put o.dst (.tuple #[.bool true, .string x, .pointer (some ⟨p, 0, none⟩)])) w') :
    wpList Tryz.prog ops Q (o :: rest) a w := by
  refine wpList_plain hg fun K' hK' => ?_
  unfold Oper.wp
  rcases h.next lawS o.type with ⟨h0, hl, hrun⟩ | ⟨key, v, kl, y, w', cnt', hkey, hlk, hv, hat, hrun, hrg, hlt, hgr, hsz, hen⟩
  · simp [execOp, hop, hit, hrun, Result.andThen]
    exact hK' _ _ (hDone h0 hl)
  · obtain ⟨x, rfl, rfl, hx⟩ := keyOf_str_inv hkey
    obtain ⟨p, hp⟩ := hptr _ hlk
    rcases ptrR_inv hv with ⟨rfl, rfl⟩ | ⟨p', rfl, rfl⟩
    · have := (hat .nil).symm.trans (hp .nil)
      simp at this
    · have := (hat .nil).symm.trans (hp .nil)
      simp at this
      obtain rfl : p' = p := by omega
      simp [execOp, hop, hit, hrun, Result.andThen]
      exact hK' _ _ (hMore x p' w' cnt' hx hlk hat hrg hlt hgr hsz hen)

section
variable {S : Prop} {w w' : World} {own own' : Owner} {db fb rb : Nat} {D E : DataW Unit} {n : Nat} {m : DevM}

theorem Dev.ptrs (h : Dev S w own db fb rb D E n m) (k : List UInt8) (hk : Maps.has D (.string k) = true) : ∃ p : Nat, ∀ z, D.atKey (.string k) z = .lit (.int .u64 p) := by
  have hd := h.dom k
  rw [hk] at hd
  obtain ⟨f, hf⟩ := Option.isSome_iff_exists.1 hd.symm
  obtain ⟨p, dv, h1, _⟩ := h.fil k f hf
  exact ⟨p, h1⟩

set_option maxHeartbeats 1000000 in
set_option maxRecDepth 100000 in
theorem Dev.used (h : Dev S w own db fb rb D E n m) (hn : n ≤ 1099511627776) :
    Calls Tryz.prog 57 #[.pointer (some ⟨db, 0, none⟩)] w fun e w' => e = .returned (.int .i64 (usedD D m.files)) ∧ Below w.heap.size w w' := by
  have c1 := h.c1
  obtain ⟨c, hc⟩ := h.fmap
  have hfb : fb < w.heap.size := hc.lt
  obtain ⟨es, rfl, hap, hkeys⟩ := hc.entries lawS
  have hcnt : es.length ≤ n := by have := h.cnt; simp [Maps.size] at this; omega
  have H : Hid (Dev S w own db fb rb (.map es) E n m) := h
  have Hap : Hid (es.Pairwise (fun p q => p.1 ≠ q.1)) := hap
  have Hkeys : Hid (∀ p ∈ es, WideAt.IsKeyLit p.1) := hkeys
  obtain ⟨U, hU⟩ : ∃ U, usedD (.map es) m.files = U := ⟨_, rfl⟩
  have HU : Hid (usedD (.map es) m.files = U) := hU
  rw [hU]
  clear h hap hkeys hU
  have hle : ∀ left, partL (flen m.files) left es ≤ 288230376151711744 := fun left => by
    have h1 := partL_le (flen m.files) left 262144 (flen_le m.files) es
    have h2 : es.length * 262144 ≤ 1099511627776 * 262144 := Nat.mul_le_mul_right _ (Nat.le_trans hcnt hn)
    omega
  have Hle := Lib.hid hle
  clear hle hcnt hn
  go_enter Tryz.func57, Tryz.ntmps57
  go_wp2_with (first
    | (at_range; refine wpList_range_own _ rfl _ 72 rfl 9 71 lawS Tryz.underlying72 _ fb c _ rfl hc ?_; intro w0 hrg0 hg0 hs0)
    | go_in)
  go_frame
  go_loopw [3] (fun t wr => ∃ (left : Lit → Bool) (cnt : Nat), wr.ranges Tryz.prog 9 ptrR fb w.heap.size c (.map es) left cnt ∧ Below w.heap.size w wr ∧ t = .int .i64 (partL (flen m.files) left es : Nat) ∧ Hid (∀ k, left k = true → Maps.has (.map es) k = true))
    (fun _ wr => wr.rangeLeft fb w.heap.size)
  case atStart => exact ⟨_, _, hrg0, (Below.refl _ _).grown hg0 (Nat.le_refl _) (fun k hk => by cases hk), by rw [partL_start _ _ Hkeys.out]; rfl, fun k hk => hk⟩
  case round =>
    obtain ⟨left, cnt, hrg, hbl, rfl, Hl⟩ := hrel
    have hpl := Hle.out left
    obtain ⟨pt, hpt⟩ : ∃ pt, partL (flen m.files) left es = pt := ⟨_, rfl⟩
    have Hpt : Hid (partL (flen m.files) left es = pt) := hpt
    rw [hpt] at hpl ⊢
    clear hpt
    go_wp2_with (first
      | (at_next; refine wpList_next_files _ rfl _ rfl fb w.heap.size c _ _ _ rfl hrg (fun k hk => H.out.ptrs k (Hl.out _ hk)) ?_ ?_)
      | go_in)
    · intro _ hl0
      have e1 : pt = U := by rw [← Hpt.out, ← HU.out, partL_end _ _ hl0]; rfl
      subst e1
      go_wp2
      go_ret
      exact ⟨rfl, hbl⟩
    · intro x p w1 cnt1 hx hlx hat hrg1 hlt hg1 hs1 hen
      have hbl1 : Below w.heap.size w w1 := hbl.grown hg1 hbl.size (fun k hk => by cases hk; exact Nat.le_refl _)
      have hhas := Hl.out _ hlx
      have hsome := H.out.dom x.data.toList
      rw [hhas] at hsome
      obtain ⟨f, hf⟩ := Option.isSome_iff_exists.1 hsome.symm
      obtain ⟨p', dv, h1, ⟨hfb', hrow, _, hlen⟩, _⟩ := H.out.fil _ _ hf
      obtain rfl : p' = p := by
        have := (h1 .nil).symm.trans (hat .nil)
        simp at this
        omega
      have hp0 : w.cell? ⟨p', 0, none⟩ = some dv := cell_of_blk hfb' rfl
      have p0 : w1.cell? ⟨p', 0, none⟩ = some dv := (hbl1.cell (World.block_lt_of_cell? _ _ hp0)).trans hp0
      have hdv : ∃ a c, dv = .slice a f.data.length c := by
        rcases hrow.2 with ⟨rfl, h0⟩ | ⟨g, cap, cur, rfl, _⟩
        · exact ⟨_, _, by rw [h0]⟩
        · exact ⟨_, _, rfl⟩
      obtain ⟨a, c', rfl⟩ := hdv
      have hstep : partL (flen m.files) (fun z => left z && !z.sameKey (.string x.data.toList)) es = pt + f.data.length := by
        obtain ⟨q, hq, hqk⟩ := List.any_eq_true.1 hhas
        rw [partL_step _ left (.string x.data.toList) trivial hlx es Hap.out ⟨q, hq, WideAt.sameKey_eq hqk⟩, Hpt.out]
        simp [flen, hf, Nat.min_eq_left hlen]
      have Hstep := Lib.hid hstep
      have Hl1 : Hid (∀ k, (left k && !k.sameKey (.string x.data.toList)) = true → Maps.has (.map es) k = true) := fun k hk => Hl.out k (by simp at hk; exact hk.1)
      generalize f.data.length = l at *
      clear hstep hat h1 hfb' hrow hf hsome hhas hlx hp0
      go_wp2
      go_roundw
      case rel => exact ⟨_, cnt1, hrg1, hbl1, by rw [Hstep.out]; go_num, Hl1⟩
      case measure => rw [hrg1.left_eq, hrg.left_eq]; exact hlt

end
end Go.Proofs.YtdpbnacabinlgaaGreatDoor
