/- The document's own device: in memory; its small functions. | The document's own device: power, did, Fuse, New, Used; how many bytes of a file are kept. | The document's own device: bytes that are copied; Read. | The document's own device: what a store into it leaves; Remove, Sync. | The document's own device: Remove. | The document's own device: Remove, of a file that was there at the last Sync. -/
import Derived.Test.YteonkojfnmbpoaaK5
import Derived.Deep.RegionLaw
namespace Go.Proofs.Yteonkojfnmbpoaa
open Go.RowKit Go.Lib Go.Maps Go.ChangeMaps Go.Sort

/-- The document's own device. -/
structure RDm where
  L : List RF
  Gone : List RF
  room : Int
  acts : Int
  fused : Bool
  left : Int
  off : Bool

/-- What either owns. -/
def both (a b : Owner) : Owner := fun k => (b k).or (a k)
theorem both_none {a b : Owner} {k : Nat} : both a b k = none ↔ a k = none ∧ b k = none := by
  unfold both
  cases b k <;> simp

/-- A call on the document's device: it writes blocks that it owns, and new ones. -/
structure RStep (o o' : Owner) (w w' : World) : Prop where
  fr : Fr (fun k => o k ≠ none) w w'
  own : ∀ b, b < w.heap.size → o' b = o b

theorem RStep.refl (o : Owner) (w : World) : RStep o o w w := ⟨Fr.refl _ _, fun _ _ => rfl⟩
theorem RStep.both {o o' : Owner} {w w' : World} (d : Owner) (h : RStep o o' w w') : Step (both d o) (both d o') w w' :=
  ⟨h.fr.mono (fun k hk e => hk (both_none.1 e).2), fun b hb e => both_none.2 ⟨(both_none.1 e).1, (h.own b hb).trans (both_none.1 e).2⟩⟩
theorem RStep.trans {o o' o'' : Owner} {a b c : World} (h : RStep o o' a b) (k : RStep o' o'' b c) : RStep o o'' a c :=
  ⟨⟨k.fr.os.trans h.fr.os, k.fr.tape.trans h.fr.tape, k.fr.output.trans h.fr.output, Nat.le_trans h.fr.size k.fr.size, fun i hi hn => by
      have hi' := Nat.lt_of_lt_of_le hi h.fr.size
      exact (k.fr.block i hi' (by rw [h.own i hi]; exact hn)).trans (h.fr.block i hi hn)⟩,
    fun i hi => (k.own i (Nat.lt_of_lt_of_le hi h.fr.size)).trans (h.own i hi)⟩
theorem RStep.below {o : Owner} {w w' : World} (h : Below w.heap.size w w') : RStep o o w w' := ⟨Fr.of_below h, fun _ _ => rfl⟩

/-- The document's device in memory. -/
structure RDev (w : World) (d o : Owner) (rb : Nat) (la : Option Addr) (lc : Nat) (gv : Value) (n : Nat) (r : RDm) : Prop where
  blk : w.heap[rb]? = some (.cells #[.slice la r.L.length lc, gv, .int .i64 r.room, .int .i64 r.acts, .bool r.fused, .int .i64 r.left, .bool r.off] 65 (0, 0))
  rowL : FRow w (both d o) la r.L
  rowG : w.ownsRow 0 68 4 gv r.Gone.length (rfCells r.Gone)
  good : ∀ f ∈ r.Gone, FGood w (both d o) f
  orb : o rb = some (9, [])
  og : ∀ g, gv.ownBlock = some g → o g = some (10, [])
  old : ∀ b, w.heap.size ≤ b → d b = none ∧ o b = none
  cnt : r.L.length + r.Gone.length ≤ n
  rroom : -9223372036854775808 ≤ r.room ∧ r.room ≤ 9223372036854775807
  rleft : 0 ≤ r.left ∧ r.left ≤ 9223372036854775807
  racts : 0 ≤ r.acts

def RD (w : World) (d o : Owner) (rb n : Nat) (r : RDm) : Prop := ∃ la lc gv, RDev w d o rb la lc gv n r

section
variable {w w' : World} {d d' o o' : Owner} {rb n lc : Nat} {la : Option Addr} {gv : Value} {r : RDm}

theorem RDev.lt (h : RDev w d o rb la lc gv n r) {b : Nat} (hb : o b ≠ none) : b < w.heap.size := by
  rcases Nat.lt_or_ge b w.heap.size with h1 | h1
  · exact h1
  · exact absurd (h.old b h1).2 hb
theorem RDev.c0 (h : RDev w d o rb la lc gv n r) : w.cell? ⟨rb, 0, none⟩ = some (.slice la r.L.length lc) := cell_of_blk h.blk rfl
theorem RDev.c1 (h : RDev w d o rb la lc gv n r) : w.cell? ⟨rb, 1, none⟩ = some gv := cell_of_blk h.blk rfl
theorem RDev.c2 (h : RDev w d o rb la lc gv n r) : w.cell? ⟨rb, 2, none⟩ = some (.int .i64 r.room) := cell_of_blk h.blk rfl
theorem RDev.c3 (h : RDev w d o rb la lc gv n r) : w.cell? ⟨rb, 3, none⟩ = some (.int .i64 r.acts) := cell_of_blk h.blk rfl
theorem RDev.c4 (h : RDev w d o rb la lc gv n r) : w.cell? ⟨rb, 4, none⟩ = some (.bool r.fused) := cell_of_blk h.blk rfl
theorem RDev.c5 (h : RDev w d o rb la lc gv n r) : w.cell? ⟨rb, 5, none⟩ = some (.int .i64 r.left) := cell_of_blk h.blk rfl
theorem RDev.c6 (h : RDev w d o rb la lc gv n r) : w.cell? ⟨rb, 6, none⟩ = some (.bool r.off) := cell_of_blk h.blk rfl
theorem RDev.f (h : RDev w d o rb la lc gv n r) (k : Nat) : w.frozen? ⟨rb, k, none⟩ = false := frozen_of_blk h.blk

/-- Blocks that it doesn't own are written, by whoever owns them, or new. -/
theorem RDev.step (h : RDev w d o rb la lc gv n r) (hs : Step (both d o) (both d' o) w w') (hk : ∀ b, o b ≠ none → w'.heap[b]? = w.heap[b]?) (ho : ∀ b, w'.heap.size ≤ b → d' b = none) : RDev w' d' o rb la lc gv n r where
  blk := (hk rb (by simp [h.orb])).trans h.blk
  rowL := h.rowL.step hs
  rowG := ownsRow_of_block h.rowG (fun g hg => hk g (by simp [h.og g hg]))
  good f hf := (h.good f hf).step hs
  orb := h.orb
  og := h.og
  old b hb := ⟨ho b hb, (h.old b (Nat.le_trans hs.fr.size hb)).2⟩
  cnt := h.cnt
  rroom := h.rroom
  rleft := h.rleft
  racts := h.racts

theorem RDev.below (h : RDev w d o rb la lc gv n r) (hb : Below w.heap.size w w') : RDev w' d o rb la lc gv n r :=
  h.step (below_step _ hb) (fun b hb' => hb.block b (h.lt hb')) (fun b hb' => (h.old b (Nat.le_trans hb.size hb')).1)

theorem RD.below (h : RD w d o rb n r) (hb : Below w.heap.size w w') : RD w' d o rb n r := by
  obtain ⟨la, lc, gv, h⟩ := h
  exact ⟨la, lc, gv, h.below hb⟩

/-- A call on the program's device. -/
theorem RD.dstep (h : RD w d o rb n r) (hs : Step d d' w w') (hdj : ∀ b, o b ≠ none → d b = none) (ho : ∀ b, w'.heap.size ≤ b → d' b = none) : RD w' d' o rb n r := by
  obtain ⟨la, lc, gv, h⟩ := h
  exact ⟨la, lc, gv, h.step ⟨hs.fr.mono (fun k hk e => hk (both_none.1 e).1), fun b hb e => both_none.2 ⟨hs.own b hb (both_none.1 e).1, (both_none.1 e).2⟩⟩ (fun b hb => hs.fr.block b (h.lt hb) (by simp [hdj b hb])) ho⟩

/-- The device's own block is written. -/
theorem RDev.setBlk (h : RDev w d o rb la lc gv n r) (hs : Fr (fun b => b = rb) w w') {acts left : Int} {fused off : Bool}
    (hb : w'.heap[rb]? = some (.cells #[.slice la r.L.length lc, gv, .int .i64 r.room, .int .i64 acts, .bool fused, .int .i64 left, .bool off] 65 (0, 0))) (ha : 0 ≤ acts) (hl : 0 ≤ left ∧ left ≤ 9223372036854775807) :
    RDev w' d o rb la lc gv n { r with acts := acts, fused := fused, left := left, off := off } ∧ RStep o o w w' := by
  have hst : RStep o o w w' := ⟨hs.mono (fun b e => by subst e; simp [h.orb]), fun _ _ => rfl⟩
  exact ⟨{
    blk := hb
    rowL := h.rowL.step (hst.both d)
    rowG := ownsRow_of_block h.rowG (fun g hg => hs.block g (h.lt (by simp [h.og g hg])) (fun e => by have := h.og g hg; rw [e, h.orb] at this; simp at this))
    good := fun f hf => (h.good f hf).step (hst.both d)
    orb := h.orb
    og := h.og
    old := fun b hb => h.old b (Nat.le_trans hs.size hb)
    cnt := h.cnt
    rroom := h.rroom
    rleft := hl
    racts := ha }, hst⟩
end

set_option maxHeartbeats 400000 in
theorem rpower_calls (rb : Nat) (fused off : Bool) (left : Int) (w : World) (c4 : w.cell? ⟨rb, 4, none⟩ = some (.bool fused)) (c5 : w.cell? ⟨rb, 5, none⟩ = some (.int .i64 left)) (c6 : w.cell? ⟨rb, 6, none⟩ = some (.bool off)) (f6 : w.frozen? ⟨rb, 6, none⟩ = false) :
    Calls Try.prog 36 #[.pointer (some ⟨rb, 0, none⟩)] w fun e w' => e = .returned (.bool !(off || (fused && left == 0))) ∧ (if fused && left == 0 then w.setCell ⟨rb, 6, none⟩ (.bool true) else w) = w' := by
  cases fused
  · simp only [Bool.false_and, Bool.or_false]
    cases off
    · go_enter Try.func36, Try.ntmps36
      go_wp2
      go_ret
      exact ⟨rfl, rfl⟩
    · go_enter Try.func36, Try.ntmps36
      go_wp2
      go_ret
      exact ⟨rfl, rfl⟩
  · by_cases h : left = 0
    · subst h
      go_enter Try.func36, Try.ntmps36
      go_wp2
      go_ret
      exact ⟨by cases off <;> rfl, rfl⟩
    · have hb : (left == 0) = false := by simpa using h
      simp only [hb, Bool.and_false, Bool.or_false]
      cases off
      · go_enter Try.func36, Try.ntmps36
        go_wp2
        go_ret
        exact ⟨rfl, rfl⟩
      · go_enter Try.func36, Try.ntmps36
        go_wp2
        go_ret
        exact ⟨rfl, rfl⟩

set_option maxHeartbeats 400000 in
theorem rdid_calls (rb : Nat) (fused : Bool) (acts left : Int) (w : World) (c3 : w.cell? ⟨rb, 3, none⟩ = some (.int .i64 acts)) (c4 : w.cell? ⟨rb, 4, none⟩ = some (.bool fused)) (c5 : w.cell? ⟨rb, 5, none⟩ = some (.int .i64 left)) (f3 : w.frozen? ⟨rb, 3, none⟩ = false) (f5 : w.frozen? ⟨rb, 5, none⟩ = false)
    (ha : 0 ≤ acts) (ha2 : acts ≤ 9223372036854775000) (hf : 0 ≤ left) (hf2 : left ≤ 9223372036854775807) :
    Calls Try.prog 38 #[.pointer (some ⟨rb, 0, none⟩)] w fun e w' => e = .returned (.int .i64 0) ∧ (if fused then (w.setCell ⟨rb, 3, none⟩ (.int .i64 (acts + 1))).setCell ⟨rb, 5, none⟩ (.int .i64 (left - 1)) else w.setCell ⟨rb, 3, none⟩ (.int .i64 (acts + 1))) = w' := by
  cases fused
  · go_enter Try.func38, Try.ntmps38
    go_wp2
    go_ret
    exact ⟨rfl, rfl⟩
  · go_enter Try.func38, Try.ntmps38
    go_wp2
    go_ret
    exact ⟨rfl, rfl⟩

set_option maxHeartbeats 400000 in
theorem rfuse_calls (rb : Nat) (n : Int) (w : World) (fused : Bool) (left : Int) (c4 : w.cell? ⟨rb, 4, none⟩ = some (.bool fused)) (c5 : w.cell? ⟨rb, 5, none⟩ = some (.int .i64 left)) (f4 : w.frozen? ⟨rb, 4, none⟩ = false) (f5 : w.frozen? ⟨rb, 5, none⟩ = false) :
    Calls Try.prog 18 #[.pointer (some ⟨rb, 0, none⟩), .int .i64 n] w fun e w' => e = .returned (.tuple #[]) ∧ (w.setCell ⟨rb, 4, none⟩ (.bool (decide (0 ≤ n)))).setCell ⟨rb, 5, none⟩ (.int .i64 (max n 0)) = w' := by
  by_cases h : 0 ≤ n
  · have e1 : decide (0 ≤ n) = true := by simpa using h
    have e2 : max n 0 = n := by omega
    rw [e1, e2]
    go_enter Try.func18, Try.ntmps18
    go_wp2
    go_end0
    exact ⟨rfl, rfl⟩
  · have e1 : decide (0 ≤ n) = false := by simpa using h
    have e2 : max n 0 = 0 := by omega
    rw [e1, e2]
    go_enter Try.func18, Try.ntmps18
    go_wp2
    go_end0
    exact ⟨rfl, rfl⟩

set_option maxHeartbeats 400000 in
theorem rnew_calls (room : Int) (w : World) :
    Calls Try.prog 29 #[.int .i64 room] w fun e w' => e = .returned (.pointer (some ⟨w.heap.size, 0, none⟩)) ∧
      w.alloc (.cells #[.slice none 0 0, .slice none 0 0, .int .i64 room, .int .i64 0, .bool false, .int .i64 0, .bool false] 65) = w' := by
  go_enter Try.func29, Try.ntmps29
  go_wp2
  go_ret
  exact ⟨rfl, rfl⟩

end Go.Proofs.Yteonkojfnmbpoaa
namespace Go.Proofs.Yteonkojfnmbpoaa
open Go.RowKit Go.Lib Go.Maps Go.ChangeMaps Go.Sort

section
variable {w w' : World} {d d' o o' : Owner} {rb n lc : Nat} {la : Option Addr} {gv : Value} {r : RDm}

theorem RD.orb (h : RD w d o rb n r) : o rb = some (9, []) := by obtain ⟨_, _, _, h⟩ := h; exact h.orb
theorem RD.lt (h : RD w d o rb n r) {b : Nat} (hb : o b ≠ none) : b < w.heap.size := by obtain ⟨_, _, _, h⟩ := h; exact h.lt hb
theorem RD.old (h : RD w d o rb n r) : ∀ b, w.heap.size ≤ b → both d o b = none := fun b hb => by obtain ⟨_, _, _, h⟩ := h; exact both_none.2 (h.old b hb)
theorem RD.mono {n' : Nat} (h : RD w d o rb n r) (hn : n ≤ n') : RD w d o rb n' r := by
  obtain ⟨la, lc, gv, h⟩ := h
  exact ⟨la, lc, gv, h.blk, h.rowL, h.rowG, h.good, h.orb, h.og, h.old, Nat.le_trans h.cnt hn, h.rroom, h.rleft, h.racts⟩

def isOff (r : RDm) : Bool := r.off || (r.fused && r.left == 0)
/-- Behind 'power'. -/
def powerR (r : RDm) : RDm := { r with off := isOff r }

theorem RD.power (h : RD w d o rb n r) : Calls Try.prog 36 #[.pointer (some ⟨rb, 0, none⟩)] w fun e w' => e = .returned (.bool !(isOff r)) ∧ RD w' d o rb n (powerR r) ∧ RStep o o w w' := by
  obtain ⟨la, lc, gv, h⟩ := h
  refine (rpower_calls rb r.fused r.off r.left w h.c4 h.c5 h.c6 (h.f 6)).mono ?_
  rintro e w' ⟨he, rfl⟩
  refine ⟨he, ?_⟩
  by_cases hc : (r.fused && r.left == 0) = true
  · rw [if_pos hc]
    obtain ⟨h1, h2⟩ := h.setBlk (w' := w.setCell ⟨rb, 6, none⟩ (.bool true)) (acts := r.acts) (left := r.left) (fused := r.fused) (off := true) ((Fr.refl _ _).setCell _ _ (fun _ => rfl)) (setCell_blk h.blk _) h.racts h.rleft
    refine ⟨⟨la, lc, gv, ?_⟩, h2⟩
    have e1 : isOff r = true := by unfold isOff; rw [hc]; simp
    unfold powerR
    rw [e1]
    exact h1
  · rw [if_neg hc]
    have e1 : isOff r = r.off := by unfold isOff; rw [Bool.eq_false_iff.2 hc]; simp
    refine ⟨⟨la, lc, gv, ?_⟩, RStep.refl _ _⟩
    unfold powerR
    rw [e1]
    exact h

/-- Behind an act. -/
def didR (r : RDm) : RDm := { r with acts := r.acts + 1, left := if r.fused then r.left - 1 else r.left }

theorem RD.did (h : RD w d o rb n r) (ha : r.acts ≤ 9223372036854775000) (hl : r.fused = true → 0 < r.left) : Calls Try.prog 38 #[.pointer (some ⟨rb, 0, none⟩)] w fun e w' => e = .returned (.int .i64 0) ∧ RD w' d o rb n (didR r) ∧ RStep o o w w' := by
  obtain ⟨la, lc, gv, h⟩ := h
  have h0 := h.rleft
  have ha0 := h.racts
  refine (rdid_calls rb r.fused r.acts r.left w h.c3 h.c4 h.c5 (h.f 3) (h.f 5) h.racts ha h.rleft.1 h.rleft.2).mono ?_
  rintro e w' ⟨he, rfl⟩
  refine ⟨he, ?_⟩
  unfold didR
  by_cases hc : r.fused = true
  · rw [if_pos hc, if_pos hc]
    have := hl hc
    obtain ⟨h1, h2⟩ := h.setBlk (w' := (w.setCell ⟨rb, 3, none⟩ (.int .i64 (r.acts + 1))).setCell ⟨rb, 5, none⟩ (.int .i64 (r.left - 1))) (acts := r.acts + 1) (left := r.left - 1) (fused := r.fused) (off := r.off) (((Fr.refl (fun b => b = rb) w).setCell _ _ (fun _ => rfl)).setCell _ _ (fun _ => rfl)) (setCell_blk (setCell_blk h.blk _) _) (by omega) (by omega)
    exact ⟨⟨la, lc, gv, h1⟩, h2⟩
  · rw [if_neg hc, if_neg hc]
    obtain ⟨h1, h2⟩ := h.setBlk (w' := w.setCell ⟨rb, 3, none⟩ (.int .i64 (r.acts + 1))) (acts := r.acts + 1) (left := r.left) (fused := r.fused) (off := r.off) ((Fr.refl _ _).setCell _ _ (fun _ => rfl)) (setCell_blk h.blk _) (by omega) h.rleft
    exact ⟨⟨la, lc, gv, h1⟩, h2⟩

def fuseR (r : RDm) (x : Int) : RDm := { r with fused := decide (0 ≤ x), left := max x 0 }

theorem RD.fuse (h : RD w d o rb n r) {x : Int} (hx : x ≤ 9223372036854775807) : Calls Try.prog 18 #[.pointer (some ⟨rb, 0, none⟩), .int .i64 x] w fun e w' => e = .returned (.tuple #[]) ∧ RD w' d o rb n (fuseR r x) ∧ RStep o o w w' := by
  obtain ⟨la, lc, gv, h⟩ := h
  refine (rfuse_calls rb x w r.fused r.left h.c4 h.c5 (h.f 4) (h.f 5)).mono ?_
  rintro e w' ⟨he, rfl⟩
  obtain ⟨h1, h2⟩ := h.setBlk (w' := (w.setCell ⟨rb, 4, none⟩ (.bool (decide (0 ≤ x)))).setCell ⟨rb, 5, none⟩ (.int .i64 (max x 0))) (acts := r.acts) (left := max x 0) (fused := decide (0 ≤ x)) (off := r.off) (((Fr.refl (fun b => b = rb) w).setCell _ _ (fun _ => rfl)).setCell _ _ (fun _ => rfl)) (setCell_blk (setCell_blk h.blk _) _) h.racts (by omega)
  exact ⟨he, ⟨la, lc, gv, h1⟩, h2⟩

def newR (room : Int) : RDm := { L := [], Gone := [], room := room, acts := 0, fused := false, left := 0, off := false }

theorem RD.new (w : World) (d : Owner) (room : Int) (hr : -9223372036854775808 ≤ room ∧ room ≤ 9223372036854775807) (ho : ∀ b, w.heap.size ≤ b → d b = none) :
    Calls Try.prog 29 #[.int .i64 room] w fun e w' => e = .returned (.pointer (some ⟨w.heap.size, 0, none⟩)) ∧ ∃ o, RD w' d o w.heap.size 0 (newR room) ∧ (∀ b, b < w.heap.size → o b = none) ∧ Below w.heap.size w w' := by
  refine (rnew_calls room w).mono ?_
  rintro e w' ⟨rfl, rfl⟩
  refine ⟨rfl, fun b => if b = w.heap.size then some (9, []) else none, ⟨none, 0, .slice none 0 0, ?_⟩, fun b hb => if_neg (by omega), (Below.refl _ _).alloc (Nat.le_refl _) _⟩
  exact {
    blk := heap_alloc_new w _
    rowL := fun j f hj => by simp [newR] at hj
    rowG := World.ownsRow_nil _ _ _ _
    good := fun f hf => by simp [newR] at hf
    orb := if_pos rfl
    og := fun g hg => by simp [Value.ownBlock] at hg
    old := fun b hb => by
      simp at hb
      exact ⟨ho b (by omega), if_neg (by omega)⟩
    cnt := by simp [newR]
    rroom := hr
    rleft := by simp [newR]
    racts := by simp [newR] }
end

/-- All bytes of all files. -/
def usedL (fs : List RF) : Nat := (fs.map fun f => f.data.length).sum

theorem usedL_take {fs : List RF} {k : Nat} {f : RF} (h : fs[k]? = some f) : usedL (fs.take (k + 1)) = usedL (fs.take k) + f.data.length := by
  rw [List.take_add_one, h]
  simp [usedL]

set_option maxHeartbeats 2000000 in
set_option maxRecDepth 100000 in
theorem rused_calls (w : World) (own : Owner) (rb : Nat) (a : Option Addr) (c : Nat) (fs : List RF) (h : FRow w own a fs) (c0 : w.cell? ⟨rb, 0, none⟩ = some (.slice a fs.length c)) (hl : fs.length ≤ 1000000) :
    Calls Try.prog 37 #[.pointer (some ⟨rb, 0, none⟩)] w fun e w' => e = .returned (.int .i64 (usedL fs : Nat)) ∧ w = w' := by
  have H := Lib.hid h
  obtain ⟨l, hll⟩ : ∃ l, fs.length = l := ⟨_, rfl⟩
  rw [hll] at hl c0
  have Hl := Lib.hid hll
  clear h hll
  go_enter Try.func37, Try.ntmps37
  go_wp2
  go_loop [3, 4] (fun u i => ∃ (k t : Nat), k ≤ l ∧ i = .int .i64 k ∧ u = .int .i64 t ∧ t ≤ k * 262144 ∧ Hid (usedL (fs.take k) = t)) (fun _ i => l - (intOf i).toNat)
  case atStart => exact ⟨0, 0, Nat.zero_le _, rfl, rfl, Nat.zero_le _, rfl⟩
  case round =>
    obtain ⟨k, t, hk, rfl, rfl, ht, HT⟩ := hrel
    by_cases hlt : k < l
    · obtain ⟨f, hf⟩ : ∃ f, fs[k]? = some f := ⟨_, List.getElem?_eq_getElem (by rw [Hl.out]; exact hlt)⟩
      obtain ⟨A, rfl, _, hat⟩ := H.out k f hf
      have c1 := hat.c1
      unfold fld at c1
      have hfl := hat.hl
      have HT2 : Hid (usedL (fs.take (k + 1)) = t + f.data.length) := by show _ = _; rw [usedL_take hf, HT.out]
      clear hf hat
      go_wp2
      go_round
      case rel => exact ⟨k + 1, t + f.data.length, by omega, by go_num, by go_num, by omega, HT2⟩
      case measure => simp [intOf]; omega
    · have hfin : fs.take k = fs := by rw [show k = l by omega, ← Hl.out]; exact List.take_length
      obtain rfl : usedL fs = t := by rw [← HT.out, hfin]
      clear hfin
      go_wp2
      go_ret
      exact ⟨rfl, rfl⟩

set_option maxHeartbeats 2000000 in
set_option maxRecDepth 100000 in
theorem rmany_some (w : World) (A : Addr) (c : Nat) (ks : List (ByteArray × Int)) (name : ByteArray) (hk : KRow w A ks) (hl : ks.length ≤ 1000000000000) :
    Calls Try.prog 43 #[.slice (some A) ks.length c, .string name] w fun e w' => e = .returned (.tuple #[.int .i64 (max (manyK ks name.data.toList) 0), .bool (decide (0 ≤ manyK ks name.data.toList))]) ∧ Below w.heap.size w w' := by
  have H := Lib.hid hk
  obtain ⟨z, hz⟩ : ∃ z, manyK ks name.data.toList = z := ⟨_, rfl⟩
  rw [hz]
  have Hz := Lib.hid hz
  obtain ⟨l, hll⟩ : ∃ l, ks.length = l := ⟨_, rfl⟩
  rw [hll] at hl ⊢
  have Hl := Lib.hid hll
  clear hk hz hll
  go_enter Try.func43, Try.ntmps43
  go_wp2
  go_loop [6] (fun i => ∃ k : Nat, k ≤ l ∧ i = .int .i64 k ∧ Hid (firstK (ks.take k) name.data.toList = none)) (fun i => l - (intOf i).toNat)
  case atStart => exact ⟨0, Nat.zero_le _, rfl, rfl⟩
  case round =>
    obtain ⟨k, hk, rfl, HF⟩ := hrel
    by_cases hlt : k < l
    · obtain ⟨⟨s, v⟩, hks⟩ : ∃ x, ks[k]? = some x := ⟨_, List.getElem?_eq_getElem (by rw [Hl.out]; exact hlt)⟩
      obtain ⟨e0, e1, hss, hwv⟩ := H.out k s v hks
      rw [← add_add', add_one'] at e1
      have hK1 : ks.take (k + 1) = ks.take k ++ [(s, v)] := by
        rw [List.take_add_one, hks]
        rfl
      by_cases he : s.data.toList = name.data.toList
      · have ht : (s.toList == name.toList) = true := by rw [toL_eq', toL_eq']; exact beq_iff_eq.2 he
        have hv : z = v := by
          have h1 : ks = ks.take (k + 1) ++ ks.drop (k + 1) := (List.take_append_drop _ _).symm
          have h2 : firstK (ks.take (k + 1)) name.data.toList = some v := by
            rw [hK1, ← he, firstK_snoc_new (he ▸ HF.out), if_pos rfl]
          rw [← Hz.out, manyK, h1]
          unfold firstK at h2 ⊢
          rw [List.find?_append]
          cases h3 : (ks.take (k + 1)).find? fun x => x.1.data.toList == name.data.toList with
          | none => rw [h3] at h2; cases h2
          | some y => rw [h3] at h2; simp at h2 ⊢; exact h2
        subst hv
        clear hks hK1 he
        by_cases h0 : 0 ≤ z
        · have d1 : decide (0 ≤ z) = true := by simpa using h0
          have d2 : max z 0 = z := by omega
          go_wp2
          go_quiet (fail)
          go_wp2
          go_ret2
          exact ⟨by simp [d1, d2], below_drewN (Below.refl _ _) _⟩
        · have d1 : decide (0 ≤ z) = false := by simpa using h0
          have d2 : max z 0 = 0 := by omega
          go_wp2
          go_quiet (fail)
          go_wp2
          go_ret2
          exact ⟨by simp [d1, d2], below_drewN (Below.refl _ _) _⟩
      · have ht : (s.toList == name.toList) = false := by rw [toL_eq', toL_eq']; exact beq_eq_false_iff_ne.2 he
        have HF2 : Hid (firstK (ks.take (k + 1)) name.data.toList = none) := by
          show _ = _
          have h3 := HF.out
          rw [hK1]
          unfold firstK at h3 ⊢
          rw [Option.map_eq_none_iff] at h3 ⊢
          rw [List.find?_append, h3]
          simp only [List.find?_cons, beq_eq_false_iff_ne.2 he, List.find?_nil]
          simp
        clear hks hK1 he
        go_wp2
        go_round
        case rel => exact ⟨k + 1, by omega, by go_num, HF2⟩
        case measure => simp [intOf]; omega
    · have hfin : ks.take k = ks := by rw [show k = l by omega, ← Hl.out]; exact List.take_length
      obtain rfl : z = -1 := by rw [← Hz.out, manyK, ← hfin, HF.out]; rfl
      clear hfin
      go_wp2
      go_ret2
      exact ⟨rfl, Below.refl _ _⟩

end Go.Proofs.Yteonkojfnmbpoaa
namespace Go.Proofs.Yteonkojfnmbpoaa
open Go.RowKit Go.Lib Go.Maps Go.ChangeMaps Go.Sort

theorem rmany_calls {w : World} {own : Owner} {kv : Value} {ks : List (ByteArray × Int)} (h : KArg w own kv ks) (hl : ks.length ≤ 1000000000000) (name : ByteArray) :
    Calls Try.prog 43 #[kv, .string name] w fun e w' => e = .returned (.tuple #[.int .i64 (max (manyK ks name.data.toList) 0), .bool (decide (0 ≤ manyK ks name.data.toList))]) ∧ Below w.heap.size w w' := by
  rcases h with ⟨rfl, rfl⟩ | ⟨A, c, rfl, _, h⟩
  · have e1 : manyK [] name.data.toList = -1 := rfl
    rw [e1]
    go_enter Try.func43, Try.ntmps43
    go_wp2_with fail
    refine wp_loop_rounds 1 ?_
    rw [rounds_succ]
    go_wp2
    go_ret2
    exact ⟨rfl, Below.refl _ _⟩
  · exact rmany_some w A c ks name h hl

/-- The builtin append of bytes that were handed in, onto a row of a known place. -/
theorem run_append_bargB {w : World} {own : Owner} {B : Nat} {bv : Value} {bs : List UInt8} (hb : BArg w own bv bs) {v : Value} {l : Nat} {xs : List Value} (hown : w.ownsRow B 5 1 v l xs) (hB : B ≤ w.heap.size) (h63 : l + bs.length ≤ 140737488355328) (ty : TypeId) :
    ∃ v' w', (Builtin.append_ #[31, 31] ty #[v, bv]).run Try.prog w = .ok v' w' ∧ w'.ownsRow B 5 1 v' (l + bs.length) (xs ++ byteCells bs) ∧ w.grownBy w' v.ownBlock := by
  obtain ⟨i0, hi, hz0, hz1, hz2⟩ := info_parts infoB
  rcases hb with ⟨rfl, rfl⟩ | ⟨A, c, rfl, _, hc⟩
  · refine ⟨v, w, run_append_owned_none w B 31 ty 5 i0 1 Try.underlying31 hi v l xs hown, ?_, ⟨rfl, rfl, rfl, Nat.le_refl _, fun _ _ _ => rfl⟩⟩
    simpa [byteCells] using hown
  · obtain ⟨v', w', h1, h2, h3, _, h5⟩ := run_append_own_at (P := Try.prog) w B 31 ty 5 i0 (.int .u8 0) 1 1 Try.underlying31 hi hz0 hz1 hz2 rfl (by decide) v l xs hown A bs.length c (byteCells bs) (by simp [byteCells_length])
      (fun j u hu => by
        simp only [byteCells, List.getElem?_map, Option.map_eq_some_iff] at hu
        obtain ⟨x, hx, rfl⟩ := hu
        exact hc j x hx) (byteCells_one bs) (by unfold maxLen; omega) (by omega) hB
    exact ⟨v', w', h1, h2, h3⟩

theorem wpList_append_bargB {w : World} {own : Owner} {B : Nat} {ops : Array Oper} {rest : List Oper} {o : Oper} {a : Act} {Q : Exit → Act → World → Prop} (hgd : o.guard = none) (s x : Operand)
    (ho : o.op = .call { callee := .builtin .append, args := #[s, x], argTypes := #[31, 31] })
    {bv : Value} {bs : List UInt8} (hb : BArg w own bv bs) {v : Value} {l : Nat} {xs : List Value} (hown : w.ownsRow B 5 1 v l xs) (hB : B ≤ w.heap.size) (h63 : l + bs.length ≤ 140737488355328)
    (hs : a.eval s = v) (hx : a.eval x = bv)
    (h : ∀ a' c' w', w'.ownsRow B 5 1 (.slice a' (l + bs.length) c') (l + bs.length) (xs ++ byteCells bs) → w.grownBy w' v.ownBlock → wpList Try.prog ops Q rest (a.put o.dst (.slice a' (l + bs.length) c')) w') :
    wpList Try.prog ops Q (o :: rest) a w := by
  refine wpList_plain hgd fun K hK => ?_
  obtain ⟨v', w', hr, h2, h3⟩ := run_append_bargB hb hown hB h63 o.type
  obtain ⟨a', c', rfl⟩ := row_slice h2
  unfold Oper.wp execOp
  simp only [ho, resolve, invoke, builtin, Sem.run_bind, Sem.run_pure, Result.andThen_ok, List.map_toArray, List.map_cons, List.map_nil, hs, hx, hr]
  exact hK _ _ (h a' c' w' h2 h3)

theorem findI_cases (fs : List RF) (nm : List UInt8) : (findI fs nm = -1 ∧ fs.find? (fun f => f.nm == nm) = none) ∨ ∃ (k : Nat) (f : RF), findI fs nm = k ∧ fs[k]? = some f ∧ f.nm = nm ∧ fs.find? (fun f => f.nm == nm) = some f := by
  unfold findI
  cases h : fs.findIdx? (fun f => f.nm == nm) with
  | none =>
    refine Or.inl ⟨rfl, ?_⟩
    rw [List.findIdx?_eq_none_iff] at h
    rw [List.find?_eq_none]
    intro x hx
    rw [h x hx]
    simp
  | some k =>
    obtain ⟨hk, h1, h2⟩ := List.findIdx?_eq_some_iff_getElem.1 h
    refine Or.inr ⟨k, fs[k], rfl, List.getElem?_eq_getElem hk, by simpa using h1, ?_⟩
    rw [List.find?_eq_some_iff_getElem]
    exact ⟨h1, k, hk, rfl, fun j hj => by simpa using h2 j hj⟩

/-- What Read answers: the bytes and the error's number. -/
def readR (r : RDm) (nm : List UInt8) : List UInt8 × Int :=
  if r.off then ([], 13) else if nameOk nm then (match r.L.find? (fun f => f.nm == nm) with | none => ([], 12) | some f => (f.data, 0)) else ([], 1)

theorem hown_empty (w : World) : (w.alloc (.cells #[] 5)).ownsRow w.heap.size 5 1 (.slice (some ⟨w.heap.size, 0, none⟩) 0 0) 0 [] :=
  ⟨rfl, .inr ⟨w.heap.size, 0, #[], rfl, Nat.le_refl _, by show (w.heap.push _)[w.heap.size]? = _; simp, Nat.le_refl _, by unfold maxLen; omega, rfl, rfl⟩⟩

set_option maxHeartbeats 2000000 in
set_option maxRecDepth 100000 in
theorem RD.read {w : World} {d o : Owner} {rb n : Nat} {r : RDm} (h : RD w d o rb n r) (hn : n ≤ 1000000) {s : ByteArray} (hs : s.size ≤ maxLen) :
    Calls Try.prog 16 #[.pointer (some ⟨rb, 0, none⟩), .string s] w fun e w' => ∃ v, e = .returned (.tuple #[v, .int .i64 (readR r s.data.toList).2]) ∧ w'.ownsRow w.heap.size 5 1 v (readR r s.data.toList).1.length (byteCells (readR r s.data.toList).1) ∧ Below w.heap.size w w' := by
  obtain ⟨la, lc, gv, h⟩ := h
  have hcnt := h.cnt
  have c0 := h.c0
  have c6 := h.c6
  have hfc := rfind_calls w _ la lc r.L s h.rowL (by omega)
  have hnm := fun w => rname_calls s w hs
  have Hnm := Lib.hid hnm
  unfold readR
  cases ho : r.off with
  | true =>
    rw [ho] at c6
    rw [if_pos rfl]
    clear h ho hfc hnm
    go_enter Try.func16, Try.ntmps16
    go_wp2
    go_ret2
    exact ⟨_, rfl, World.ownsRow_nil _ _ _ _, Below.refl _ _⟩
  | false =>
    rw [ho] at c6
    rw [if_neg (by simp)]
    cases hk : nameOk s.data.toList with
    | false =>
      rw [if_neg (by simp)]
      have H1 := Hnm.out w
      rw [hk] at H1
      have HN := Lib.hid H1
      clear h ho hfc hnm H1
      go_enter Try.func16, Try.ntmps16
      go_wp2_with fail
      refine HN.out.mono ?_
      rintro e w1 ⟨rfl, rfl⟩
      go_wp2_with fail
      go_ret2
      exact ⟨_, rfl, World.ownsRow_nil _ _ _ _, Below.refl _ _⟩
    | true =>
      rw [if_pos rfl]
      have H1 := Hnm.out w
      rw [hk] at H1
      have HN := Lib.hid H1
      rcases findI_cases r.L s.data.toList with ⟨hf, hfi⟩ | ⟨k, f, hf, hkf, _, hfi⟩
      · rw [hfi]
        rw [hf] at hfc
        have HF := Lib.hid hfc
        clear h ho hfc hnm H1
        go_enter Try.func16, Try.ntmps16
        go_wp2_with fail
        refine HN.out.mono ?_
        rintro e w1 ⟨rfl, rfl⟩
        go_wp2_with fail
        refine HF.out.mono ?_
        rintro e w1 ⟨rfl, rfl⟩
        go_wp2_with fail
        go_ret2
        exact ⟨_, rfl, World.ownsRow_nil _ _ _ _, Below.refl _ _⟩
      · rw [hfi]
        rw [hf] at hfc
        have HF := Lib.hid hfc
        obtain ⟨A, rfl, _, hat⟩ := h.rowL k f hkf
        have c1 := hat.c1
        unfold fld at c1
        have hkl : k < r.L.length := (List.getElem?_eq_some_iff.1 hkf).1
        have hfl := hat.hl
        have hbl := (Below.refl w.heap.size w).alloc (Nat.le_refl _) (.cells #[] 5)
        have b0 := (hbl.cell (p := ⟨rb, 0, none⟩) (World.block_lt_of_cell? _ _ c0)).trans c0
        have b1 := (hbl.cell (World.block_lt_of_cell? _ _ c1)).trans c1
        have hown := hown_empty w
        have HB := Lib.hid (hat.hb.step (below_step _ ((Below.refl w.heap.size w).alloc (Nat.le_refl _) (.cells #[] 5))))
        have Hown := Lib.hid hown
        clear h ho hfc hnm H1 hat hkf hfi hbl hown
        dsimp only
        go_enter Try.func16, Try.ntmps16
        go_wp2_with fail
        refine HN.out.mono ?_
        rintro e w1 ⟨rfl, rfl⟩
        go_wp2_with fail
        refine HF.out.mono ?_
        rintro e w1 ⟨rfl, rfl⟩
        go_wp2_with (first
          | (at_builtin; refine wpList_append_bargB rfl (.tmp 22) (.tmp 30) rfl HB.out Hown.out (by simp) (by omega) rfl rfl ?_; intro a2 c2 w2 hown2 hgrow2))
        go_ret2
        exact ⟨_, rfl, by simpa using hown2, ((Below.refl _ _).alloc (Nat.le_refl _) _).grown hgrow2 (by simp) (fun k hk => by simp [Value.ownBlock] at hk; omega)⟩

end Go.Proofs.Yteonkojfnmbpoaa
namespace Go.Proofs.Yteonkojfnmbpoaa
open Go.RowKit Go.Lib Go.Maps Go.ChangeMaps Go.Sort

/-- The builtin append of a file onto a row that is owned. -/
theorem wpList_append_rf {w : World} {ops : Array Oper} {rest : List Oper} {o : Oper} {a : Act} {Q : Exit → Act → World → Prop} (hgd : o.guard = none) (s x : Operand)
    (ho : o.op = .call { callee := .builtin .append, args := #[s, x], argTypes := #[63, 63] })
    {v : Value} {l : Nat} {xs : List Value} (hown : w.ownsRow 0 68 4 v l xs) (f : RF) (A : Addr) (hA : ∀ j u, f.cells[j]? = some u → w.cell? (A.add j) = some u) (h63 : l ≤ 1000000)
    (hs : a.eval s = v) (hx : a.eval x = .slice (some A) 1 1)
    (h : ∀ a' c' w', w'.ownsRow 0 68 4 (.slice a' (l + 1) c') (l + 1) (xs ++ f.cells) → w.grownBy w' v.ownBlock → ((Value.slice a' (l + 1) c').ownBlock = v.ownBlock ∨ (Value.slice a' (l + 1) c').ownBlock = some w.heap.size) → wpList Try.prog ops Q rest (a.put o.dst (.slice a' (l + 1) c')) w') :
    wpList Try.prog ops Q (o :: rest) a w := by
  obtain ⟨i0, hi, hz0, hz1, hz2⟩ := info_parts infoRF
  refine wpList_plain hgd fun K hK => ?_
  obtain ⟨v', w', hr, h2, h3, _, h5⟩ := run_append_own_at (P := Try.prog) w 0 63 o.type 68 i0 (.agg #[.string .empty, .slice none 0 0, .int .i64 0, .bool false]) 4 56 Try.underlying63 hi hz0 hz1 hz2 rfl (by decide) v l xs hown A 1 1 f.cells rfl hA (rf_oneCell f) (by unfold maxLen; omega) (by omega) (Nat.zero_le _)
  obtain ⟨a', c', rfl⟩ := row_slice h2
  unfold Oper.wp execOp
  simp only [ho, resolve, invoke, builtin, Sem.run_bind, Sem.run_pure, Result.andThen_ok, List.map_toArray, List.map_cons, List.map_nil, hs, hx, hr]
  exact hK _ _ (h a' c' w' h2 h3 h5)

section
variable {w w' W : World} {d d' o o' : Owner} {rb n n' lc : Nat} {la : Option Addr} {gv : Value} {r : RDm}

/-- New files are stored. -/
theorem RDev.setL (h : RDev w d o rb la lc gv n r) (hb : Below w.heap.size w W) {la' : Option Addr} {lc' : Nat} {L' : List RF} (hrow : FRow W (both d o) la' L') (hn : L'.length + r.Gone.length ≤ n') :
    RDev (W.setCell ⟨rb, 0, none⟩ (.slice la' L'.length lc')) d o rb la' lc' gv n' { r with L := L' } ∧ RStep o o w (W.setCell ⟨rb, 0, none⟩ (.slice la' L'.length lc')) := by
  have hblk := (hb.block rb (h.lt (by simp [h.orb]))).trans h.blk
  have h1 : Fr (fun b => b = rb) W (W.setCell ⟨rb, 0, none⟩ (.slice la' L'.length lc')) := (Fr.refl (fun b => b = rb) W).setCell _ _ (fun _ => rfl)
  have hst1 : RStep o o W (W.setCell ⟨rb, 0, none⟩ (.slice la' L'.length lc')) := ⟨h1.mono (fun b e => by subst e; simp [h.orb]), fun _ _ => rfl⟩
  have hst : RStep o o w (W.setCell ⟨rb, 0, none⟩ (.slice la' L'.length lc')) := (RStep.below hb).trans hst1
  exact ⟨{
    blk := setCell_blk hblk _
    rowL := hrow.step (hst1.both d)
    rowG := ownsRow_of_block h.rowG (fun g hg => (h1.block g (Nat.lt_of_lt_of_le (h.lt (by simp [h.og g hg])) hb.size) (fun e => by have := h.og g hg; rw [e, h.orb] at this; simp at this)).trans (hb.block g (h.lt (by simp [h.og g hg]))))
    good := fun f hf => (h.good f hf).step (hst.both d)
    orb := h.orb
    og := h.og
    old := fun b hb' => h.old b (Nat.le_trans hst.fr.size hb')
    cnt := hn
    rroom := h.rroom
    rleft := h.rleft
    racts := h.racts }, hst⟩

/-- Removed files are stored. -/
theorem RDev.setG (h : RDev w d o rb la lc gv n r) (hW : Fr (fun b => gv.ownBlock = some b) w W) {a' : Option Addr} {c' : Nat} {G' : List RF} (hrow : W.ownsRow 0 68 4 (.slice a' G'.length c') G'.length (rfCells G'))
    (hob : ∀ g, (Value.slice a' G'.length c').ownBlock = some g → gv.ownBlock = some g ∨ (w.heap.size ≤ g ∧ g < W.heap.size)) (hg : ∀ f ∈ G', FGood w (both d o) f) (hn : r.L.length + G'.length ≤ n') :
    ∃ o', RDev (W.setCell ⟨rb, 1, none⟩ (.slice a' G'.length c')) d o' rb la lc (.slice a' G'.length c') n' { r with Gone := G' } ∧ RStep o o' w (W.setCell ⟨rb, 1, none⟩ (.slice a' G'.length c')) := by
  have hrb : rb < w.heap.size := h.lt (by simp [h.orb])
  have hgb : gv.ownBlock ≠ some rb := fun e => by have := h.og rb e; rw [h.orb] at this; simp at this
  have hnb : (Value.slice a' G'.length c').ownBlock ≠ some rb := fun e => by
    rcases hob rb e with h1 | ⟨h1, _⟩
    · exact hgb h1
    · omega
  have hblk := (hW.block rb hrb hgb).trans h.blk
  have h1 : Fr (fun b => b = rb) W (W.setCell ⟨rb, 1, none⟩ (.slice a' G'.length c')) := (Fr.refl (fun b => b = rb) W).setCell _ _ (fun _ => rfl)
  have hfr : Fr (fun b => o b ≠ none) w (W.setCell ⟨rb, 1, none⟩ (.slice a' G'.length c')) :=
    (hW.mono (fun b (e : gv.ownBlock = some b) => by simp [h.og b e])).trans (h1.mono (fun b e => by subst e; simp [h.orb]))
  have hst : RStep o (fun b => if (Value.slice a' G'.length c').ownBlock = some b then some (10, []) else o b) w (W.setCell ⟨rb, 1, none⟩ (.slice a' G'.length c')) := ⟨hfr, fun b hb => by
    by_cases e : (Value.slice a' G'.length c').ownBlock = some b
    · rw [if_pos e]
      rcases hob b e with h2 | ⟨h2, _⟩
      · exact (h.og b h2).symm
      · omega
    · rw [if_neg e]⟩
  refine ⟨_, ?_, hst⟩
  exact {
    blk := setCell_blk hblk _
    rowL := h.rowL.step (hst.both d)
    rowG := ownsRow_of_block hrow (fun g hg => Below.heap_setCell _ _ _ _ (fun e => hnb (by rw [hg, e])))
    good := fun f hf => (hg f hf).step (hst.both d)
    orb := by rw [if_neg hnb]; exact h.orb
    og := fun g hg => if_pos hg
    old := fun b hb' => by
      have h2 := h.old b (Nat.le_trans hst.fr.size hb')
      refine ⟨h2.1, ?_⟩
      rw [if_neg ?_]
      · exact h2.2
      · intro e
        have h3 : W.heap.size ≤ b := Nat.le_trans h1.size hb'
        rcases hob b e with h4 | ⟨_, h4⟩
        · have := h.og b h4
          rw [h2.2] at this
          cases this
        · omega
    cnt := hn
    rroom := h.rroom
    rleft := h.rleft
    racts := h.racts }
end

theorem withoutL_len (fs : List RF) (nm : List UInt8) : (withoutL fs nm).length ≤ fs.length := List.length_filter_le _ _

/-- What Remove answers, and what the device is then. -/
def removeR (r : RDm) (nm : List UInt8) : RDm × Int :=
  if isOff r then (powerR r, 13)
  else if nameOk nm = false then (powerR r, 1)
  else match r.L.find? (fun f => f.nm == nm) with
    | none => (powerR r, 12)
    | some f => (didR { powerR r with Gone := if f.there then r.Gone ++ [f] else r.Gone, L := withoutL r.L nm }, 0)

end Go.Proofs.Yteonkojfnmbpoaa
namespace Go.Proofs.Yteonkojfnmbpoaa
open Go.RowKit Go.Lib Go.Maps Go.ChangeMaps Go.Sort

section
variable {w w' : World} {d o : Owner} {rb n lc : Nat} {la : Option Addr} {gv : Value} {r : RDm}

/-- What a call on the document's device leaves. -/
def RPost (w : World) (d o : Owner) (rb n : Nat) (r : RDm × Int) (e : Ending) (w' : World) : Prop :=
  e = .returned (.int .i64 r.2) ∧ ∃ o', RD w' d o' rb n r.1 ∧ RStep o o' w w'

theorem isOff_left (h : isOff r = false) : (powerR r).fused = true → (powerR r).left ≠ 0 := by
  intro h1 h2
  simp only [powerR] at h1 h2
  simp [isOff, h1, h2] at h

set_option maxHeartbeats 2000000 in
set_option maxRecDepth 100000 in
theorem RD.remove_off (h : RD w d o rb n r) (hd : isOff r = true) (s : ByteArray) :
    Calls Try.prog 12 #[.pointer (some ⟨rb, 0, none⟩), .string s] w (RPost w d o rb n (powerR r, 13)) := by
  have hpw := h.power
  rw [hd] at hpw
  have HP := Lib.hid hpw
  clear h hd hpw
  go_enter Try.func12, Try.ntmps12
  go_wp2_with fail
  refine HP.out.mono ?_
  rintro e w1 ⟨rfl, h1, st1⟩
  have H1 := Lib.hid h1
  clear h1
  go_wp2_with fail
  go_ret
  exact ⟨rfl, o, H1.out, st1⟩

set_option maxHeartbeats 2000000 in
set_option maxRecDepth 100000 in
theorem RD.remove_bad (h : RD w d o rb n r) (hd : isOff r = false) {s : ByteArray} (hs : s.size ≤ maxLen) (hk : nameOk s.data.toList = false) :
    Calls Try.prog 12 #[.pointer (some ⟨rb, 0, none⟩), .string s] w (RPost w d o rb n (powerR r, 1)) := by
  have hpw := h.power
  rw [hd] at hpw
  have HP := Lib.hid hpw
  have HN : Hid (∀ w, Calls Try.prog 30 #[.string s] w fun e w' => e = .returned (.bool false) ∧ w = w') := fun w => by rw [← hk]; exact rname_calls s w hs
  clear h hd hpw hk
  go_enter Try.func12, Try.ntmps12
  go_wp2_with fail
  refine HP.out.mono ?_
  rintro e w1 ⟨rfl, h1, st1⟩
  have H1 := Lib.hid h1
  clear h1
  go_wp2_with fail
  refine (HN.out w1).mono ?_
  rintro e w2 ⟨rfl, rfl⟩
  go_wp2_with fail
  go_ret
  exact ⟨rfl, o, H1.out, st1⟩

set_option maxHeartbeats 2000000 in
set_option maxRecDepth 100000 in
theorem RD.remove_none (h : RD w d o rb n r) (hn : n ≤ 1000000) (hd : isOff r = false) {s : ByteArray} (hs : s.size ≤ maxLen) (hk : nameOk s.data.toList = true) (hf : findI r.L s.data.toList = -1) :
    Calls Try.prog 12 #[.pointer (some ⟨rb, 0, none⟩), .string s] w (RPost w d o rb n (powerR r, 12)) := by
  have hpw := h.power
  rw [hd] at hpw
  have HP := Lib.hid hpw
  have HN : Hid (∀ w, Calls Try.prog 30 #[.string s] w fun e w' => e = .returned (.bool true) ∧ w = w') := fun w => by rw [← hk]; exact rname_calls s w hs
  have HF := Lib.hid hf
  clear h hd hpw hk hf
  go_enter Try.func12, Try.ntmps12
  go_wp2_with fail
  refine HP.out.mono ?_
  rintro e w1 ⟨rfl, h1, st1⟩
  have H1 := Lib.hid h1
  obtain ⟨la, lc, gv, h2⟩ := h1
  have c0 := h2.c0
  have hcnt := h2.cnt
  have hfc := rfind_calls w1 _ la lc (powerR r).L s h2.rowL (by omega)
  rw [show findI (powerR r).L s.data.toList = -1 from HF.out] at hfc
  have HFC := Lib.hid hfc
  clear h2 hfc
  go_wp2_with fail
  refine (HN.out w1).mono ?_
  rintro e w2 ⟨rfl, rfl⟩
  go_wp2_with fail
  refine HFC.out.mono ?_
  rintro e w2 ⟨rfl, rfl⟩
  go_wp2_with fail
  go_ret
  exact ⟨rfl, o, H1.out, st1⟩

set_option maxHeartbeats 2000000 in
set_option maxRecDepth 100000 in
theorem RD.remove_keep (h : RD w d o rb n r) (hn : n ≤ 1000000) (hac : r.acts ≤ 1000000000000) (hd : isOff r = false) {s : ByteArray} (hs : s.size ≤ maxLen) (hk : nameOk s.data.toList = true) {k : Nat} {f : RF} (hf : findI r.L s.data.toList = k) (hkf : r.L[k]? = some f) (ht : f.there = false) :
    Calls Try.prog 12 #[.pointer (some ⟨rb, 0, none⟩), .string s] w (RPost w d o rb n (didR { powerR r with Gone := r.Gone, L := withoutL r.L s.data.toList }, 0)) := by
  have hpw := h.power
  rw [hd] at hpw
  have HP := Lib.hid hpw
  have HN : Hid (∀ w, Calls Try.prog 30 #[.string s] w fun e w' => e = .returned (.bool true) ∧ w = w') := fun w => by rw [← hk]; exact rname_calls s w hs
  have HF := Lib.hid hf
  have HK := Lib.hid hkf
  have HL := Lib.hid (isOff_left hd)
  have HT := Lib.hid ht
  clear h hd hpw hk hf hkf ht
  go_enter Try.func12, Try.ntmps12
  go_wp2_with fail
  refine HP.out.mono ?_
  rintro e w1 ⟨rfl, h1, st1⟩
  have ST1 := Lib.hid st1
  obtain ⟨la, lc, gv, h2⟩ := h1
  have H2 := Lib.hid h2
  obtain ⟨A, hA, _, hat⟩ := h2.rowL k f HK.out
  subst hA
  have b0 := h2.c0
  have c0 := hat.c0
  have c1 := hat.c1
  have c2 := hat.c2
  have c3 := hat.c3
  unfold fld at c1 c2 c3
  rw [HT.out] at c3
  have hcnt := h2.cnt
  have hkl : k < (powerR r).L.length := (List.getElem?_eq_some_iff.1 (show (powerR r).L[k]? = some f from HK.out)).1
  have hfc := rfind_calls w1 _ (some A) lc (powerR r).L s h2.rowL (by omega)
  rw [show findI (powerR r).L s.data.toList = k from HF.out] at hfc
  have HFC := Lib.hid hfc
  have HBL := Lib.hid ((Below.refl w1.heap.size w1).alloc (Nat.le_refl _) (.cells #[.string f.name, .slice f.da f.data.length f.dc, .int .i64 f.done, .bool false] 68))
  have d0 := (HBL.out.cell (p := ⟨rb, 0, none⟩) (World.block_lt_of_cell? _ _ b0)).trans b0
  have HW := Lib.hid (rwithout_calls _ (both d o) (some A) lc (powerR r).L s (h2.rowL.below HBL.out) (by omega) (fun b hb => both_none.2 (h2.old b (Nat.le_trans HBL.out.size hb))))
  clear h2 hfc hat st1
  go_wp2_with fail
  refine (HN.out w1).mono ?_
  rintro e w2 ⟨rfl, rfl⟩
  go_wp2_with fail
  refine HFC.out.mono ?_
  rintro e w2 ⟨rfl, rfl⟩
  go_wp2_with fail
  refine HW.out.mono ?_
  rintro e w3 ⟨a3, c3', rfl, hr3, hb3⟩
  have hb13 := HBL.out.trans (hb3.mono HBL.out.size)
  obtain ⟨h4, st4⟩ := H2.out.setL (n' := n) hb13 (lc' := c3') hr3 (by have := withoutL_len (powerR r).L s.data.toList; omega)
  have e0 := (hb13.cell (p := ⟨rb, 0, none⟩) (World.block_lt_of_cell? _ _ b0)).trans b0
  have f0 : w3.frozen? ⟨rb, 0, none⟩ = false := frozen_of_blk ((hb13.block rb (H2.out.lt (by simp [H2.out.orb]))).trans H2.out.blk)
  have hdid := RD.did (w := w3.setCell ⟨rb, 0, none⟩ (.slice a3 (withoutL (powerR r).L s.data.toList).length c3')) ⟨_, _, _, h4⟩ (by show r.acts ≤ _; omega) (fun e => by have h5 := HL.out e; have h6 := H2.out.rleft; show 0 < (powerR r).left; omega)
  have HD := Lib.hid hdid
  have ST4 := Lib.hid st4
  clear hr3 hb3 hb13 h4 st4 hdid d0 b0 c0 c1 c2 c3
  go_wp2_with fail
  refine HD.out.mono ?_
  rintro e w5 ⟨rfl, h5, st5⟩
  have H5 := Lib.hid h5
  clear h5
  go_wp2_with fail
  go_ret
  exact ⟨rfl, o, H5.out, (ST1.out.trans ST4.out).trans st5⟩
end

end Go.Proofs.Yteonkojfnmbpoaa
namespace Go.Proofs.Yteonkojfnmbpoaa
open Go.RowKit Go.Lib Go.Maps Go.ChangeMaps Go.Sort

/-- The builtin append of a file, as a step of a region that draws its order. -/
theorem step_append_rf {w : World} {ops : Array Oper} {o : Oper} {a : Act} {K : Act → World → Prop} {Q : Exit → Act → World → Prop} {E : Prop} (hgd : o.guard = none) (s x : Operand)
    (ho : o.op = .call { callee := .builtin .append, args := #[s, x], argTypes := #[63, 63] })
    {v : Value} {l : Nat} {xs : List Value} (hown : w.ownsRow 0 68 4 v l xs) (f : RF) (A : Addr) (hA : ∀ j u, f.cells[j]? = some u → w.cell? (A.add j) = some u) (h63 : l ≤ 1000000)
    (hs : a.eval s = v) (hx : a.eval x = .slice (some A) 1 1)
    (h : ∀ a' c' w', w'.ownsRow 0 68 4 (.slice a' (l + 1) c') (l + 1) (xs ++ f.cells) → w.grownBy w' v.ownBlock → ((Value.slice a' (l + 1) c').ownBlock = v.ownBlock ∨ (Value.slice a' (l + 1) c').ownBlock = some w.heap.size) → K (a.put o.dst (.slice a' (l + 1) c')) w') :
    if Region.wanted o (yielded ops a.tmps) = true then Oper.wp Try.prog o a w K Q else E := by
  have hw : Region.wanted o (yielded ops a.tmps) = true := by simp [Region.wanted, hgd]
  rw [if_pos hw]
  obtain ⟨i0, hi, hz0, hz1, hz2⟩ := info_parts infoRF
  obtain ⟨v', w', hr, h2, h3, _, h5⟩ := run_append_own_at (P := Try.prog) w 0 63 o.type 68 i0 (.agg #[.string .empty, .slice none 0 0, .int .i64 0, .bool false]) 4 56 Try.underlying63 hi hz0 hz1 hz2 rfl (by decide) v l xs hown A 1 1 f.cells rfl hA (rf_oneCell f) (by unfold maxLen; omega) (by omega) (Nat.zero_le _)
  obtain ⟨a', c', rfl⟩ := row_slice h2
  unfold Oper.wp execOp
  simp only [ho, resolve, invoke, builtin, Sem.run_bind, Sem.run_pure, Result.andThen_ok, List.map_toArray, List.map_cons, List.map_nil, hs, hx, hr]
  exact h a' c' w' h2 h3 h5

section
variable {w w' : World} {d o : Owner} {rb n lc : Nat} {la : Option Addr} {gv : Value} {r : RDm}

theorem RDev.gone_store (h : RDev w d o rb la lc gv n r) {f : RF} {w2 w3 : World} {a' : Option Addr} {c' : Nat} (hB : Below w.heap.size w w2) (hgrow : w2.grownBy w3 gv.ownBlock) (hown : w3.ownsRow 0 68 4 (.slice a' (r.Gone.length + 1) c') (r.Gone.length + 1) (rfCells r.Gone ++ f.cells))
    (hob : (Value.slice a' (r.Gone.length + 1) c').ownBlock = gv.ownBlock ∨ (Value.slice a' (r.Gone.length + 1) c').ownBlock = some w2.heap.size) (hg : FGood w (both d o) f) :
    w3.cell? ⟨rb, 1, none⟩ = some gv ∧ w3.frozen? ⟨rb, 1, none⟩ = false ∧ ∃ o', RDev (w3.setCell ⟨rb, 1, none⟩ (.slice a' (r.Gone.length + 1) c')) d o' rb la lc (.slice a' (r.Gone.length + 1) c') (n + 1) { r with Gone := r.Gone ++ [f] } ∧ RStep o o' w (w3.setCell ⟨rb, 1, none⟩ (.slice a' (r.Gone.length + 1) c')) := by
  have hrb : rb < w.heap.size := h.lt (by simp [h.orb])
  have hgb : gv.ownBlock ≠ some rb := fun e => by have := h.og rb e; rw [h.orb] at this; simp at this
  have hW : Fr (fun b => gv.ownBlock = some b) w w3 := (((Fr.of_below hB : Fr (fun b => gv.ownBlock = some b) w w2))).grown hgrow (fun k e _ => e)
  have hblk := (hW.block rb hrb hgb).trans h.blk
  refine ⟨cell_of_blk hblk rfl, frozen_of_blk hblk, ?_⟩
  have hlen : (r.Gone ++ [f]).length = r.Gone.length + 1 := by simp
  have hcnt := h.cnt
  rw [← hlen] at hown hob ⊢
  refine h.setG hW (by rw [rfCells_append, rfCells_one]; exact hown) (fun g hg' => ?_) (fun x hx => ?_) (by rw [hlen]; omega)
  · rcases hob with e | e
    · exact Or.inl (by rw [← e]; exact hg')
    · rw [e] at hg'
      injection hg' with hg'
      refine Or.inr ⟨by have := hB.size; omega, ?_⟩
      rcases hown.2 with ⟨e2, _⟩ | ⟨g2, cap, cur, e2, _, hh, _⟩
      · rw [e2] at e
        simp [Value.ownBlock] at e
      · rw [e2] at e
        simp only [Value.ownBlock, Option.some.injEq] at e
        rw [← hg', ← e]
        exact (Array.getElem?_eq_some_iff.1 hh).1
  · rcases List.mem_append.1 hx with hx | hx
    · exact h.good x hx
    · simp at hx
      subst hx
      exact hg

set_option maxHeartbeats 2000000 in
set_option maxRecDepth 100000 in
theorem RD.remove_gone (h : RD w d o rb n r) (hn : n ≤ 1000000) (hac : r.acts ≤ 1000000000000) (hd : isOff r = false) {s : ByteArray} (hs : s.size ≤ maxLen) (hk : nameOk s.data.toList = true) {k : Nat} {f : RF} (hf : findI r.L s.data.toList = k) (hkf : r.L[k]? = some f) (ht : f.there = true) :
    Calls Try.prog 12 #[.pointer (some ⟨rb, 0, none⟩), .string s] w (RPost w d o rb (n + 1) (didR { powerR r with Gone := r.Gone ++ [f], L := withoutL r.L s.data.toList }, 0)) := by
  have hpw := h.power
  rw [hd] at hpw
  have HP := Lib.hid hpw
  have HN : Hid (∀ w, Calls Try.prog 30 #[.string s] w fun e w' => e = .returned (.bool true) ∧ w = w') := fun w => by rw [← hk]; exact rname_calls s w hs
  have HF := Lib.hid hf
  have HK := Lib.hid hkf
  have HL := Lib.hid (isOff_left hd)
  have HT := Lib.hid ht
  clear h hd hpw hk hf hkf ht
  go_enter Try.func12, Try.ntmps12
  go_wp2_with fail
  refine HP.out.mono ?_
  rintro e w1 ⟨rfl, h1, st1⟩
  have ST1 := Lib.hid st1
  obtain ⟨la, lc, gv, h2⟩ := h1
  have H2 := Lib.hid h2
  obtain ⟨A, hA, _, hat⟩ := h2.rowL k f HK.out
  subst hA
  have b0 := h2.c0
  have b1 := h2.c1
  have c0 := hat.c0
  have c1 := hat.c1
  have c2 := hat.c2
  have c3 := hat.c3
  unfold fld at c1 c2 c3
  rw [HT.out] at c3
  have hcnt := h2.cnt
  have hkl : k < (powerR r).L.length := (List.getElem?_eq_some_iff.1 (show (powerR r).L[k]? = some f from HK.out)).1
  have hfc := rfind_calls w1 _ (some A) lc (powerR r).L s h2.rowL (by omega)
  rw [show findI (powerR r).L s.data.toList = k from HF.out] at hfc
  have HFC := Lib.hid hfc
  have HBL := Lib.hid ((Below.refl w1.heap.size w1).alloc (Nat.le_refl _) (.cells #[.string f.name, .slice f.da f.data.length f.dc, .int .i64 f.done, .bool true] 68))
  have d0 := (HBL.out.cell (p := ⟨rb, 0, none⟩) (World.block_lt_of_cell? _ _ b0)).trans b0
  have hgl : r.Gone.length ≤ 1000000 := by have : (powerR r).Gone.length = r.Gone.length := rfl; omega
  have HBD : Hid (Below w1.heap.size w1 ((w1.alloc (.cells #[.string f.name, .slice f.da f.data.length f.dc, .int .i64 f.done, .bool true] 68)).drew)) := (HBL.out.drew)
  have HBE := Lib.hid (HBD.out.alloc HBD.out.size (.cells #[.string f.name, .slice f.da f.data.length f.dc, .int .i64 f.done, .bool true] 68))
  have d1 := (HBD.out.cell (p := ⟨rb, 1, none⟩) (World.block_lt_of_cell? _ _ b1)).trans b1
  have d2 := (HBE.out.cell (p := ⟨rb, 1, none⟩) (World.block_lt_of_cell? _ _ b1)).trans b1
  have d3 : ((w1.alloc (.cells #[.string f.name, .slice f.da f.data.length f.dc, .int .i64 f.done, .bool true] 68)).alloc (.cells #[.string f.name, .slice f.da f.data.length f.dc, .int .i64 f.done, .bool true] 68)).cell? ⟨rb, 1, none⟩ = some gv := d2
  have HG : Hid ((((w1.alloc (.cells #[.string f.name, .slice f.da f.data.length f.dc, .int .i64 f.done, .bool true] 68)).drew).alloc (.cells #[.string f.name, .slice f.da f.data.length f.dc, .int .i64 f.done, .bool true] 68)).ownsRow 0 68 4 gv r.Gone.length (rfCells r.Gone)) := ownsRow_of_block h2.rowG (fun g hg => HBE.out.block g (h2.lt (by simp [h2.og g hg])))
  have hA : ∀ j u, f.cells[j]? = some u → (((w1.alloc (.cells #[.string f.name, .slice f.da f.data.length f.dc, .int .i64 f.done, .bool true] 68)).drew).alloc (.cells #[.string f.name, .slice f.da f.data.length f.dc, .int .i64 f.done, .bool true] 68)).cell? ((⟨w1.heap.size + 1, 0, none⟩ : Addr).add j) = some u := by
    have h3 := rf_new ((w1.alloc (.cells #[.string f.name, .slice f.da f.data.length f.dc, .int .i64 f.done, .bool true] 68)).drew) f
    rw [HT.out] at h3
    intro j u hu
    have h4 := h3 j u hu
    simpa using h4
  have HA := Lib.hid hA
  have HFG := Lib.hid hat.good
  clear h2 hfc hat st1 hA
  go_wp2_with fail
  refine (HN.out w1).mono ?_
  rintro e w2 ⟨rfl, rfl⟩
  go_wp2_with fail
  refine HFC.out.mono ?_
  rintro e w2 ⟨rfl, rfl⟩
  go_wp2_with fail
  go_region_law (refine step_append_rf rfl (.tmp 36) (.tmp 38) rfl HG.out f ⟨w1.heap.size + 1, 0, none⟩ HA.out (by omega) (by simp [Act.eval, Act.put]) (by simp [Act.eval, Act.put]) ?_; intro a2 c2' w2 hown2 hgrow2 hob2; obtain ⟨g1, g2, o2, h3, st3⟩ := H2.out.gone_store HBE.out hgrow2 hown2 hob2 HFG.out; have H3 := Lib.hid h3; have ST3 := Lib.hid st3; clear h3 st3 hown2 hgrow2 hob2)
  all_goals
    obtain ⟨W3, hW3⟩ : ∃ W3, W3 = w2.setCell ⟨rb, 1, none⟩ (.slice a2 (r.Gone.length + 1) c2') := ⟨_, rfl⟩
    rw [← hW3]
    have H4 : Hid (RDev W3 d o2 rb (some A) lc (.slice a2 (r.Gone.length + 1) c2') (n + 1) { powerR r with Gone := r.Gone ++ [f] }) := by rw [hW3]; exact H3
    have ST4 : Hid (RStep o o2 w1 W3) := by rw [hW3]; exact ST3
    clear H3 ST3 hW3 g1 g2 b0 b1 c0 c1 c2 c3 d1 d2 d3
    have b0 : W3.cell? ⟨rb, 0, none⟩ = some (.slice (some A) (powerR r).L.length lc) := H4.out.c0
    have HW := Lib.hid (rwithout_calls W3 (both d o2) (some A) lc (powerR r).L s H4.out.rowL (by omega) (fun b hb => both_none.2 (H4.out.old b hb)))
    go_wp2_with fail
    refine HW.out.mono ?_
    rintro e w3 ⟨a3, c3', rfl, hr3, hb3⟩
    obtain ⟨h4, st4⟩ := H4.out.setL (n' := n + 1) hb3 (lc' := c3') hr3 (by have := withoutL_len (powerR r).L s.data.toList; have := H4.out.cnt; dsimp only at this ⊢; omega)
    have e0 := (hb3.cell (p := ⟨rb, 0, none⟩) (World.block_lt_of_cell? _ _ b0)).trans b0
    have f0 : w3.frozen? ⟨rb, 0, none⟩ = false := frozen_of_blk ((hb3.block rb (H4.out.lt (by simp [H4.out.orb]))).trans H4.out.blk)
    have hdid := RD.did (w := w3.setCell ⟨rb, 0, none⟩ (.slice a3 (withoutL (powerR r).L s.data.toList).length c3')) ⟨_, _, _, h4⟩ (by show r.acts ≤ _; omega) (fun e => by have h5 := HL.out e; have h6 := H2.out.rleft; show 0 < (powerR r).left; omega)
    have HD := Lib.hid hdid
    have ST5 := Lib.hid st4
    clear hr3 hb3 h4 st4 hdid b0
    go_wp2_with fail
    refine HD.out.mono ?_
    rintro e w5 ⟨rfl, h5, st5⟩
    have H5 := Lib.hid h5
    clear h5
    go_wp2_with fail
    go_ret
    exact ⟨rfl, o2, H5.out, ((ST1.out.trans ST4.out).trans ST5.out).trans st5⟩

theorem RD.remove (h : RD w d o rb n r) (hn : n ≤ 1000000) (hac : r.acts ≤ 1000000000000) {s : ByteArray} (hs : s.size ≤ maxLen) :
    Calls Try.prog 12 #[.pointer (some ⟨rb, 0, none⟩), .string s] w (RPost w d o rb (n + 1) (removeR r s.data.toList)) := by
  have up : ∀ {x : RDm × Int} {e : Ending} {w' : World}, RPost w d o rb n x e w' → RPost w d o rb (n + 1) x e w' := fun ⟨h1, o', h2, h3⟩ => ⟨h1, o', h2.mono (Nat.le_succ _), h3⟩
  unfold removeR
  cases hd : isOff r with
  | true =>
    rw [if_pos rfl]
    exact (h.remove_off hd s).mono fun _ _ => up
  | false =>
    rw [if_neg (by simp)]
    cases hk : nameOk s.data.toList with
    | false =>
      rw [if_pos rfl]
      exact (h.remove_bad hd hs hk).mono fun _ _ => up
    | true =>
      rw [if_neg (by simp)]
      rcases findI_cases r.L s.data.toList with ⟨hf, hfi⟩ | ⟨k, f, hf, hkf, _, hfi⟩
      · rw [hfi]
        exact (h.remove_none hn hd hs hk hf).mono fun _ _ => up
      · rw [hfi]
        dsimp only
        cases ht : f.there with
        | false =>
          rw [if_neg (by simp)]
          exact (h.remove_keep hn hac hd hs hk hf hkf ht).mono fun _ _ => up
        | true =>
          rw [if_pos rfl]
          exact h.remove_gone hn hac hd hs hk hf hkf ht
end

end Go.Proofs.Yteonkojfnmbpoaa
