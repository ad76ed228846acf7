/- What a device is in memory ('Dev'): its own block, its two maps, a block and a row for each file; who owns which block; and that it stays so while blocks that it doesn't own are written. -/
import Derived.Test.YtgkhnimdlkdaaaaD2
import Derived.Maps.RangeWalk
namespace Go.Proofs.Ytgkhnimdlkdaaaa
open Go.RowKit Go.Lib Go.Maps

/-- How a pointer to a file reads: its block. -/
def ptrR : Value → Option (DataW Unit × List MemPlace)
  | .pointer none => some (.nil, [])
  | .pointer (some ⟨b, 0, none⟩) => some (.lit (.int .u64 b), [])
  | _ => none

/-- What a slice of bytes is told as. -/
def slD : Value → DataW Unit
  | .slice (some a) n c => .agg [.lit (.int .u64 a.block), .lit (.int .u64 n), .lit (.int .u64 c)]
  | _ => .nil

def slR : Value → Option (DataW Unit × List MemPlace)
  | .slice none 0 0 => some (.nil, [])
  | .slice (some ⟨g, 0, none⟩) n c => some (slD (.slice (some ⟨g, 0, none⟩) n c), [])
  | _ => none

theorem ptrR_inv {v : Value} {z : DataW Unit × List MemPlace} (h : ptrR v = some z) : v = .pointer none ∧ z = (.nil, []) ∨ ∃ b, v = .pointer (some ⟨b, 0, none⟩) ∧ z = (.lit (.int .u64 b), []) := by
  unfold ptrR at h
  split at h
  · left; cases h; exact ⟨rfl, rfl⟩
  · right; cases h; exact ⟨_, rfl, rfl⟩
  · cases h

theorem slR_inv {v : Value} {z : DataW Unit × List MemPlace} (h : slR v = some z) : z = (slD v, []) ∧ (v = .slice none 0 0 ∨ ∃ g n c, v = .slice (some ⟨g, 0, none⟩) n c) := by
  unfold slR at h
  split at h
  · cases h; exact ⟨rfl, Or.inl rfl⟩
  · cases h; exact ⟨rfl, Or.inr ⟨_, _, _, rfl⟩⟩
  · cases h

theorem slD_inj {v v' : Value} {z z' : DataW Unit × List MemPlace} (h : slR v = some z) (h' : slR v' = some z') (e : slD v = slD v') : v = v' := by
  rcases (slR_inv h).2 with rfl | ⟨g, n, c, rfl⟩ <;> rcases (slR_inv h').2 with rfl | ⟨g', n', c', rfl⟩
  · rfl
  · simp [slD] at e
  · simp [slD] at e
  · simp [slD] at e
    obtain ⟨e1, e2, e3⟩ := e
    obtain rfl : g = g' := by omega
    obtain rfl : n = n' := by omega
    obtain rfl : c = c' := by omega
    rfl

structure FileM where
  data : List UInt8
  synced : Nat
  fresh : Bool

structure DevM where
  room : Int
  acts : Int
  fuse : Int
  down : Bool
  files : List UInt8 → Option FileM
  gone : List UInt8 → Option (List UInt8)

/-- Who owns a block: (0) the device's own, (1) the files' map, (2) the map of what was removed, (3) the file of a name, (4) its bytes, (5) the bytes of what was removed. -/
abbrev Owner := Nat → Option (Nat × List UInt8)

def FileAt (w : World) (p : Nat) (dv : Value) (f : FileM) : Prop :=
  w.heap[p]? = some (.cells #[dv, .int .i64 f.synced, .bool f.fresh] 68 (0, 0)) ∧ w.ownsRow 0 5 1 dv f.data.length (byteCells f.data) ∧ f.synced ≤ f.data.length ∧ f.data.length ≤ 262144

structure Dev (S : Prop) (w : World) (own : Owner) (db fb rb : Nat) (D E : DataW Unit) (n : Nat) (m : DevM) : Prop where
  blk : w.heap[db]? = some (.cells #[.int .i64 m.room, .map (some fb), .map (some rb), .int .i64 m.acts, .int .i64 m.fuse, .bool m.down] 65 (0, 0))
  fmap : ∃ c, w.ownsMap Try.prog 9 ptrR fb c D
  rmap : ∃ c, w.ownsMap Try.prog 9 slR rb c E
  cnt : Maps.size D + Maps.size E ≤ n
  dom : ∀ k, Maps.has D (.string k) = (m.files k).isSome
  rdom : ∀ k, (m.gone k).isSome = true → Maps.has E (.string k) = true
  rback : S → ∀ k, Maps.has E (.string k) = true → (m.gone k).isSome = true
  fil : ∀ k f, m.files k = some f → ∃ (p : Nat) (dv : Value), (∀ z, D.atKey (.string k) z = .lit (.int .u64 p)) ∧ FileAt w p dv f ∧ own p = some (3, k) ∧ ∀ g, dv.ownBlock = some g → own g = some (4, k)
  rem : ∀ k d, m.gone k = some d → ∃ (dv : Value), (∀ z, E.atKey (.string k) z = slD dv) ∧ w.ownsRow 0 5 1 dv d.length (byteCells d) ∧ d.length ≤ 262144 ∧ ∀ g, dv.ownBlock = some g → own g = some (5, k)
  odb : own db = some (0, [])
  ofb : own fb = some (1, [])
  orb : own rb = some (2, [])
  old : ∀ b, w.heap.size ≤ b → own b = none
  rroom : -9223372036854775808 ≤ m.room ∧ m.room ≤ 9223372036854775807
  rfuse : -9223372036854775808 ≤ m.fuse ∧ m.fuse ≤ 9223372036854775807
  racts : 0 ≤ m.acts

/-- Nothing but blocks of S, and new ones, has turned. -/
structure Fr (S : Nat → Prop) (w w' : World) : Prop where
  os : w'.os = w.os
  tape : w'.tape = w.tape
  output : w'.output = w.output
  size : w.heap.size ≤ w'.heap.size
  block : ∀ k, k < w.heap.size → ¬ S k → w'.heap[k]? = w.heap[k]?

theorem Fr.refl (S : Nat → Prop) (w : World) : Fr S w w := ⟨rfl, rfl, rfl, Nat.le_refl _, fun _ _ _ => rfl⟩
theorem Fr.trans {S : Nat → Prop} {a b c : World} (h : Fr S a b) (k : Fr S b c) : Fr S a c :=
  ⟨k.os.trans h.os, k.tape.trans h.tape, k.output.trans h.output, Nat.le_trans h.size k.size, fun i hi hn => (k.block i (Nat.lt_of_lt_of_le hi h.size) hn).trans (h.block i hi hn)⟩
theorem Fr.mono {S S' : Nat → Prop} {a b : World} (h : Fr S a b) (hs : ∀ k, S k → S' k) : Fr S' a b := ⟨h.os, h.tape, h.output, h.size, fun i hi hn => h.block i hi (fun e => hn (hs i e))⟩
theorem Fr.of_below {S : Nat → Prop} {a b : World} (h : Below a.heap.size a b) : Fr S a b := ⟨h.os, h.tape, h.output, h.size, fun i hi _ => h.block i hi⟩
theorem Fr.alloc {S : Nat → Prop} {a b : World} (h : Fr S a b) (o : Obj) : Fr S a (b.alloc o) := h.trans (Fr.of_below ((Below.refl _ _).alloc (Nat.le_refl _) _))
theorem Fr.setCell {S : Nat → Prop} {a b : World} (h : Fr S a b) (p : Addr) (v : Value) (hp : p.block < a.heap.size → S p.block) : Fr S a (b.setCell p v) :=
  ⟨h.os, h.tape, h.output, by simpa [World.setCell] using h.size, fun i hi hn => (Below.heap_setCell _ _ _ _ (fun e => by subst e; exact hn (hp hi))).trans (h.block i hi hn)⟩
theorem Fr.grown {S : Nat → Prop} {a b c : World} {row : Option Nat} (h : Fr S a b) (hg : b.grownBy c row) (hr : ∀ k, row = some k → k < a.heap.size → S k) : Fr S a c :=
  ⟨hg.os.trans h.os, hg.tape.trans h.tape, hg.output.trans h.output, Nat.le_trans h.size hg.size, fun i hi hn => (hg.block i (Nat.lt_of_lt_of_le hi h.size) (fun e => hn (hr i e.symm hi))).trans (h.block i hi hn)⟩
theorem Fr.to_below {a b : World} {S : Nat → Prop} (h : Fr S a b) {B : Nat} (hB : B ≤ a.heap.size) (hs : ∀ k, k < B → ¬ S k) : Below B a b := ⟨h.os, h.tape, h.output, h.size, fun k hk => h.block k (by omega) (hs k hk)⟩
theorem Fr.cell {S : Nat → Prop} {a b : World} (h : Fr S a b) {p : Addr} {v : Value} (hc : a.cell? p = some v) (hs : ¬ S p.block) : b.cell? p = some v :=
  (World.cell?_of_block (h.block p.block (World.block_lt_of_cell? _ _ hc) hs)).trans hc

/-- A call on a device: it writes blocks that it owns, and new ones; what it didn't own, and was there, it doesn't own behind it. -/
structure Step (own own' : Owner) (w w' : World) : Prop where
  fr : Fr (fun k => own k ≠ none) w w'
  own : ∀ b, b < w.heap.size → own b = none → own' b = none

theorem Step.refl (own : Owner) (w : World) : Step own own w w := ⟨Fr.refl _ _, fun _ _ h => h⟩
theorem Step.trans {o o' o'' : Owner} {a b c : World} (h : Step o o' a b) (k : Step o' o'' b c) : Step o o'' a c :=
  ⟨⟨k.fr.os.trans h.fr.os, k.fr.tape.trans h.fr.tape, k.fr.output.trans h.fr.output, Nat.le_trans h.fr.size k.fr.size, fun i hi hn => by
      have hn' : o i = none := by cases hoi : o i with
        | none => rfl
        | some x => exact absurd (by simp [hoi]) hn
      exact (k.fr.block i (Nat.lt_of_lt_of_le hi h.fr.size) (by simp [h.own i hi hn'])).trans (h.fr.block i hi hn)⟩,
    fun i hi hn => k.own i (Nat.lt_of_lt_of_le hi h.fr.size) (h.own i hi hn)⟩
theorem Step.of_fr {o : Owner} {a b : World} (h : Fr (fun k => o k ≠ none) a b) : Step o o a b := ⟨h, fun _ _ h => h⟩

theorem ownsMap_of_block {H : Type} {P : Program} {k : TypeId} {R : Value → Option (DataW H × List MemPlace)} {w w' : World} {b n : Nat} {D : DataW H} (h : w.ownsMap P k R b n D) (hb : w'.heap[b]? = w.heap[b]?) : w'.ownsMap P k R b n D := by
  obtain ⟨es, clock, h1, r⟩ := h
  exact ⟨es, clock, hb.trans h1, r⟩

theorem ownsRow_of_block {w w' : World} {base : Nat} {e : TypeId} {size : Nat} {v : Value} {n : Nat} {xs : List Value} (h : w.ownsRow base e size v n xs) (hb : ∀ g, v.ownBlock = some g → w'.heap[g]? = w.heap[g]?) : w'.ownsRow base e size v n xs := by
  refine ⟨h.1, ?_⟩
  rcases h.2 with h2 | ⟨g, cap, cur, rfl, hg, hh, r⟩
  · exact Or.inl h2
  · exact Or.inr ⟨g, cap, cur, rfl, hg, (hb g rfl).trans hh, r⟩

theorem ownsRow_base {w : World} {base base' : Nat} {e : TypeId} {size : Nat} {v : Value} {n : Nat} {xs : List Value} (h : w.ownsRow base e size v n xs) (hb : base' ≤ base) : w.ownsRow base' e size v n xs := by
  refine ⟨h.1, ?_⟩
  rcases h.2 with h2 | ⟨g, cap, cur, hv, hg, r⟩
  · exact Or.inl h2
  · exact Or.inr ⟨g, cap, cur, hv, Nat.le_trans hb hg, r⟩

theorem ownsRow_slR {w : World} {base : Nat} {e : TypeId} {size : Nat} {v : Value} {n : Nat} {xs : List Value} (h : w.ownsRow base e size v n xs) : slR v = some (slD v, []) := by
  rcases h.2 with ⟨rfl, _⟩ | ⟨g, cap, cur, rfl, _⟩ <;> rfl

theorem FileAt.kept {w w' : World} {p : Nat} {dv : Value} {f : FileM} (h : FileAt w p dv f) (hp : w'.heap[p]? = w.heap[p]?) (hg : ∀ g, dv.ownBlock = some g → w'.heap[g]? = w.heap[g]?) : FileAt w' p dv f :=
  ⟨hp.trans h.1, ownsRow_of_block h.2.1 hg, h.2.2⟩

section
variable {S : Prop} {w w' : World} {own own' : Owner} {db fb rb : Nat} {D E : DataW Unit} {n : Nat} {m : DevM}

/-- Blocks that the device doesn't own are written. -/
theorem Dev.kept (h : Dev S w own db fb rb D E n m) (hs : w.heap.size ≤ w'.heap.size) (hb : ∀ b, own b ≠ none → w'.heap[b]? = w.heap[b]?) : Dev S w' own db fb rb D E n m where
  blk := (hb db (by simp [h.odb])).trans h.blk
  fmap := let ⟨c, hc⟩ := h.fmap; ⟨c, ownsMap_of_block hc (hb fb (by simp [h.ofb]))⟩
  rmap := let ⟨c, hc⟩ := h.rmap; ⟨c, ownsMap_of_block hc (hb rb (by simp [h.orb]))⟩
  cnt := h.cnt
  dom := h.dom
  rdom := h.rdom
  rback := h.rback
  fil k f hf := by
    obtain ⟨p, dv, h1, h2, h3, h4⟩ := h.fil k f hf
    exact ⟨p, dv, h1, h2.kept (hb p (by simp [h3])) (fun g hg => hb g (by simp [h4 g hg])), h3, h4⟩
  rem k d hd := by
    obtain ⟨dv, h1, h2, h3, h4⟩ := h.rem k d hd
    exact ⟨dv, h1, ownsRow_of_block h2 (fun g hg => hb g (by simp [h4 g hg])), h3, h4⟩
  odb := h.odb
  ofb := h.ofb
  orb := h.orb
  old b hb' := h.old b (Nat.le_trans hs hb')
  rroom := h.rroom
  rfuse := h.rfuse
  racts := h.racts

theorem Dev.lt (h : Dev S w own db fb rb D E n m) {b : Nat} (hb : own b ≠ none) : b < w.heap.size := by
  rcases Nat.lt_or_ge b w.heap.size with h1 | h1
  · exact h1
  · exact absurd (h.old b h1) hb

/-- A step that writes none of what is owned. -/
theorem Dev.fr {T : Nat → Prop} (h : Dev S w own db fb rb D E n m) (hf : Fr T w w') (hS : ∀ b, own b ≠ none → ¬ T b) : Dev S w' own db fb rb D E n m :=
  h.kept hf.size (fun b hb => hf.block b (h.lt hb) (hS b hb))

/-- The device's own block is written. -/
theorem Dev.setBlk (h : Dev S w own db fb rb D E n m) (hs : w.heap.size ≤ w'.heap.size) (hb : ∀ b, own b ≠ none → b ≠ db → w'.heap[b]? = w.heap[b]?) {acts fuse : Int} {down : Bool}
    (hdb : w'.heap[db]? = some (.cells #[.int .i64 m.room, .map (some fb), .map (some rb), .int .i64 acts, .int .i64 fuse, .bool down] 65 (0, 0))) (ha : 0 ≤ acts) (hf : -9223372036854775808 ≤ fuse ∧ fuse ≤ 9223372036854775807) :
    Dev S w' own db fb rb D E n { m with acts := acts, fuse := fuse, down := down } where
  blk := hdb
  fmap := let ⟨c, hc⟩ := h.fmap; ⟨c, ownsMap_of_block hc (hb fb (by simp [h.ofb]) (fun e => by have := h.ofb; rw [e, h.odb] at this; simp at this))⟩
  rmap := let ⟨c, hc⟩ := h.rmap; ⟨c, ownsMap_of_block hc (hb rb (by simp [h.orb]) (fun e => by have := h.orb; rw [e, h.odb] at this; simp at this))⟩
  cnt := h.cnt
  dom := h.dom
  rdom := h.rdom
  rback := h.rback
  fil k f hf := by
    obtain ⟨p, dv, h1, h2, h3, h4⟩ := h.fil k f hf
    exact ⟨p, dv, h1, h2.kept (hb p (by simp [h3]) (fun e => by rw [e, h.odb] at h3; simp at h3)) (fun g hg => hb g (by simp [h4 g hg]) (fun e => by have := h4 g hg; rw [e, h.odb] at this; simp at this)), h3, h4⟩
  rem k d hd := by
    obtain ⟨dv, h1, h2, h3, h4⟩ := h.rem k d hd
    exact ⟨dv, h1, ownsRow_of_block h2 (fun g hg => hb g (by simp [h4 g hg]) (fun e => by have := h4 g hg; rw [e, h.odb] at this; simp at this)), h3, h4⟩
  odb := h.odb
  ofb := h.ofb
  orb := h.orb
  old b hb' := h.old b (Nat.le_trans hs hb')
  rroom := h.rroom
  rfuse := hf
  racts := ha

theorem cell_of_blk {b k : Nat} {cs : Array Value} {e : TypeId} {fr : Nat × Nat} (h : w.heap[b]? = some (.cells cs e fr)) {v : Value} (hv : cs[k]? = some v) : w.cell? ⟨b, k, none⟩ = some v := by simp [World.cell?, h, hv]
theorem frozen_of_blk {b k : Nat} {cs : Array Value} {e : TypeId} (h : w.heap[b]? = some (.cells cs e (0, 0))) : w.frozen? ⟨b, k, none⟩ = false := by simp [World.frozen?, h]
theorem setCell_blk {b k : Nat} {cs : Array Value} {e : TypeId} {fr : Nat × Nat} (h : w.heap[b]? = some (.cells cs e fr)) (v : Value) : (w.setCell ⟨b, k, none⟩ v).heap[b]? = some (.cells (cs.setIfInBounds k v) e fr) := by
  simp [World.setCell, Array.getElem?_modify, h]

theorem Dev.c0 (h : Dev S w own db fb rb D E n m) : w.cell? ⟨db, 0, none⟩ = some (.int .i64 m.room) := cell_of_blk h.blk rfl
theorem Dev.c1 (h : Dev S w own db fb rb D E n m) : w.cell? ⟨db, 1, none⟩ = some (.map (some fb)) := cell_of_blk h.blk rfl
theorem Dev.c2 (h : Dev S w own db fb rb D E n m) : w.cell? ⟨db, 2, none⟩ = some (.map (some rb)) := cell_of_blk h.blk rfl
theorem Dev.c3 (h : Dev S w own db fb rb D E n m) : w.cell? ⟨db, 3, none⟩ = some (.int .i64 m.acts) := cell_of_blk h.blk rfl
theorem Dev.c4 (h : Dev S w own db fb rb D E n m) : w.cell? ⟨db, 4, none⟩ = some (.int .i64 m.fuse) := cell_of_blk h.blk rfl
theorem Dev.c5 (h : Dev S w own db fb rb D E n m) : w.cell? ⟨db, 5, none⟩ = some (.bool m.down) := cell_of_blk h.blk rfl
theorem Dev.f (h : Dev S w own db fb rb D E n m) (k : Nat) : w.frozen? ⟨db, k, none⟩ = false := frozen_of_blk h.blk

/-- 'powerless' of a device. -/
theorem Dev.powerless (h : Dev S w own db fb rb D E n m) :
    Calls Try.prog 43 #[.pointer (some ⟨db, 0, none⟩)] w fun e w' => e = .returned (.bool (m.down || m.fuse == 0)) ∧ Dev S w' own db fb rb D E n { m with down := m.down || m.fuse == 0 } ∧ Step own own w w' := by
  refine (powerless_calls db m.fuse m.down w h.c4 h.c5 (h.f 5)).mono ?_
  rintro e w' ⟨he, rfl⟩
  refine ⟨he, ?_, Step.of_fr ((Fr.refl _ _).setCell _ _ (fun _ => by simp [h.odb]))⟩
  exact h.setBlk (by simp [World.setCell]) (fun b _ hne => Below.heap_setCell _ _ _ _ hne) (setCell_blk h.blk _) h.racts h.rfuse

/-- 'done' of a device. -/
theorem Dev.done (h : Dev S w own db fb rb D E n m) (ha : m.acts ≤ 9223372036854775000) :
    Calls Try.prog 45 #[.pointer (some ⟨db, 0, none⟩)] w fun e w' => e = .returned (.int .i64 0) ∧ Dev S w' own db fb rb D E n { m with acts := m.acts + 1, fuse := fuseLess m.fuse } ∧ Step own own w w' := by
  have hr := h.rfuse
  have hac := h.racts
  refine (done_calls db m.acts m.fuse w h.c3 h.c4 (h.f 3) (h.f 4) h.racts ha h.rfuse.2).mono ?_
  rintro e w' ⟨he, rfl⟩
  refine ⟨he, ?_, ?_⟩
  · by_cases h0 : 0 < m.fuse
    · rw [if_pos h0]
      have e1 : fuseLess m.fuse = m.fuse - 1 := by simp [fuseLess, h0]
      rw [e1]
      exact h.setBlk (by simp [World.setCell]) (fun b _ hne => (Below.heap_setCell _ _ _ _ hne).trans (Below.heap_setCell _ _ _ _ hne)) (setCell_blk (setCell_blk h.blk _) _) (by omega) (by omega)
    · rw [if_neg h0]
      have e1 : fuseLess m.fuse = m.fuse := by simp [fuseLess, h0]
      rw [e1]
      exact h.setBlk (by simp [World.setCell]) (fun b _ hne => Below.heap_setCell _ _ _ _ hne) (setCell_blk h.blk _) (by omega) (by omega)
  · by_cases h0 : 0 < m.fuse
    · rw [if_pos h0]
      exact Step.of_fr (((Fr.refl _ _).setCell _ _ (fun _ => by simp [h.odb])).setCell _ _ (fun _ => by simp [h.odb]))
    · rw [if_neg h0]
      exact Step.of_fr ((Fr.refl _ _).setCell _ _ (fun _ => by simp [h.odb]))

end
end Go.Proofs.Ytgkhnimdlkdaaaa
