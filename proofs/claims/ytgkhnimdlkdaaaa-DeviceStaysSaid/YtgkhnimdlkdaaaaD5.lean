/- Read of a device, in each of its cases. -/
import Derived.Test.YtgkhnimdlkdaaaaD4
namespace Go.Proofs.Ytgkhnimdlkdaaaa
open Go.RowKit Go.Lib Go.Maps

/-- bytes.Clone of a row that is owned: a row of the same bytes in new memory. -/
theorem bclone_row {w : World} {base : Nat} {dv : Value} {d : List UInt8} (h : w.ownsRow base 5 1 dv d.length (byteCells d)) (hl : d.length ≤ 140737488355328) :
    Calls Try.prog 37 #[dv] w fun e w' => ∃ v, e = .returned v ∧ w'.ownsRow w.heap.size 5 1 v d.length (byteCells d) ∧ Below w.heap.size w w' := by
  have hcells := fun g hg => h.cells (g := g) hg
  rcases h.2 with ⟨rfl, h0⟩ | ⟨g, cap, cur, rfl, _⟩
  · refine (bclone_nil w).mono ?_
    rintro e w' ⟨rfl, rfl⟩
    obtain rfl : d = [] := List.eq_nil_of_length_eq_zero h0
    exact ⟨_, rfl, World.ownsRow_nil _ _ _ _, Below.refl _ _⟩
  · refine (bclone_some ⟨g, 0, none⟩ cap d w hl (fun j x hx => hcells g rfl j _ (by simp [byteCells, hx]))).mono ?_
    rintro e w' ⟨v, rfl, h1, h2, _⟩
    exact ⟨_, rfl, h1, h2⟩

section
variable {S : Prop} {w w' : World} {own own' : Owner} {db fb rb : Nat} {D E : DataW Unit} {n : Nat} {m : DevM}

set_option maxHeartbeats 400000 in
set_option maxRecDepth 100000 in
theorem Dev.read_down (h : Dev S w own db fb rb D E n m) (hd : m.down = true) (s : ByteArray) :
    Calls Try.prog 22 #[.pointer (some ⟨db, 0, none⟩), .string s] w fun e w' => e = .returned (.tuple #[.slice none 0 0, .int .i64 13]) ∧ w = w' := by
  have c5 := h.c5
  rw [hd] at c5
  clear hd h
  go_enter Try.func22, Try.ntmps22
  go_wp2_with fail
  go_ret2
  exact ⟨rfl, rfl⟩

set_option maxHeartbeats 400000 in
set_option maxRecDepth 100000 in
theorem Dev.read_bad (h : Dev S w own db fb rb D E n m) (hd : m.down = false) {s : ByteArray} (hs : s.size ≤ maxLen) (hn : nameOk s.data.toList = false) :
    Calls Try.prog 22 #[.pointer (some ⟨db, 0, none⟩), .string s] w fun e w' => e = .returned (.tuple #[.slice none 0 0, .int .i64 1]) ∧ w = w' := by
  have c5 := h.c5
  rw [hd] at c5
  have h1 := find_bad ⟨db, 0, none⟩ s w hs hn
  clear hd h hn
  go_enter Try.func22, Try.ntmps22
  go_wp2_with fail
  refine h1.mono ?_
  rintro e w1 ⟨rfl, rfl⟩
  go_wp2_with fail
  go_ret2
  exact ⟨rfl, rfl⟩

set_option maxHeartbeats 400000 in
set_option maxRecDepth 100000 in
theorem Dev.read_none (h : Dev S w own db fb rb D E n m) (hd : m.down = false) {s : ByteArray} (hs : s.size ≤ maxLen) (hn : nameOk s.data.toList = true) (hf : m.files s.data.toList = none) :
    Calls Try.prog 22 #[.pointer (some ⟨db, 0, none⟩), .string s] w fun e w' => e = .returned (.tuple #[.slice none 0 0, .int .i64 12]) ∧ w = w' := by
  have c5 := h.c5
  rw [hd] at c5
  have h1 := h.find_none hs hn hf
  clear hd h hn hf
  go_enter Try.func22, Try.ntmps22
  go_wp2_with fail
  refine h1.mono ?_
  rintro e w1 ⟨rfl, rfl⟩
  go_wp2_with fail
  go_ret2
  exact ⟨rfl, rfl⟩

set_option maxHeartbeats 400000 in
set_option maxRecDepth 100000 in
theorem Dev.read_some (h : Dev S w own db fb rb D E n m) (hd : m.down = false) {s : ByteArray} (hs : s.size ≤ maxLen) (hn : nameOk s.data.toList = true) {f : FileM} (hf : m.files s.data.toList = some f) :
    Calls Try.prog 22 #[.pointer (some ⟨db, 0, none⟩), .string s] w fun e w' => ∃ v, e = .returned (.tuple #[v, .int .i64 0]) ∧ w'.ownsRow w.heap.size 5 1 v f.data.length (byteCells f.data) ∧ Below w.heap.size w w' := by
  have c5 := h.c5
  rw [hd] at c5
  obtain ⟨p, dv, hl, _, ⟨hfb, hrow, _, hlen⟩, _⟩ := h.look_some hs hf
  have h1 := h.find_some hs hn hl
  have p0 : w.cell? ⟨p, 0, none⟩ = some dv := cell_of_blk hfb rfl
  have hc := bclone_row hrow (by omega)
  clear hd h hn hf hl hfb hrow
  go_enter Try.func22, Try.ntmps22
  go_wp2_with fail
  refine h1.mono ?_
  rintro e w1 ⟨rfl, rfl⟩
  go_wp2_with fail
  refine hc.mono ?_
  rintro e w2 ⟨v, rfl, h2, h3⟩
  go_wp2_with fail
  go_ret2
  exact ⟨_, rfl, h2, h3⟩

end

/-- What Read answers: the bytes and the error's number. -/
def readM (m : DevM) (k : List UInt8) : List UInt8 × Int :=
  if m.down then ([], 13) else if nameOk k then (match m.files k with | none => ([], 12) | some f => (f.data, 0)) else ([], 1)

theorem Dev.read {S : Prop} {w : World} {own : Owner} {db fb rb : Nat} {D E : DataW Unit} {n : Nat} {m : DevM} (h : Dev S w own db fb rb D E n m) {s : ByteArray} (hs : s.size ≤ maxLen) :
    Calls Try.prog 22 #[.pointer (some ⟨db, 0, none⟩), .string s] w fun e w' => ∃ v, e = .returned (.tuple #[v, .int .i64 (readM m s.data.toList).2]) ∧ w'.ownsRow w.heap.size 5 1 v (readM m s.data.toList).1.length (byteCells (readM m s.data.toList).1) ∧ Below w.heap.size w w' := by
  have nil : ∀ (c : Int), readM m s.data.toList = ([], c) → Calls Try.prog 22 #[.pointer (some ⟨db, 0, none⟩), .string s] w (fun e w' => e = .returned (.tuple #[.slice none 0 0, .int .i64 c]) ∧ w = w') → Calls Try.prog 22 #[.pointer (some ⟨db, 0, none⟩), .string s] w fun e w' => ∃ v, e = .returned (.tuple #[v, .int .i64 (readM m s.data.toList).2]) ∧ w'.ownsRow w.heap.size 5 1 v (readM m s.data.toList).1.length (byteCells (readM m s.data.toList).1) ∧ Below w.heap.size w w' := by
    intro c hc hcalls
    refine hcalls.mono ?_
    rintro e w' ⟨rfl, rfl⟩
    rw [hc]
    exact ⟨_, rfl, World.ownsRow_nil _ _ _ _, Below.refl _ _⟩
  cases hd : m.down with
  | true => exact nil 13 (by simp [readM, hd]) (h.read_down hd s)
  | false =>
    cases hn : nameOk s.data.toList with
    | false => exact nil 1 (by simp [readM, hd, hn]) (h.read_bad hd hs hn)
    | true =>
      cases hf : m.files s.data.toList with
      | none => exact nil 12 (by simp [readM, hd, hn, hf]) (h.read_none hd hs hn hf)
      | some f =>
        have e1 : readM m s.data.toList = (f.data, 0) := by simp [readM, hd, hn, hf]
        rw [e1]
        exact h.read_some hd hs hn hf

end Go.Proofs.Ytgkhnimdlkdaaaa
