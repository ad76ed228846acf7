/- How many files a device has, and how many bytes; a new device; what is handed to its calls out of new memory; conversions of bytes. -/
import Derived.Test.YtgkhnimdlkdaaaaDF
import Derived.Lib.ConvBytes
import Derived.Laws.BytesArg
namespace Go.Proofs.Ytgkhnimdlkdaaaa
open Go.RowKit Go.Lib Go.Maps Go.ChangeMaps
open Go.WideElems (rd_key rg_of)

def keyS : Lit → List UInt8
  | .string k => k
  | _ => []

set_option maxRecDepth 100000 in
theorem ownsMap_strs {w : World} {R : Value → Option (DataW Unit × List MemPlace)} {b n : Nat} {es : List (Lit × DataW Unit)} (h : w.ownsMap Try.prog 9 R b n (.map es)) : ∀ p ∈ es, p.1 = .string (keyS p.1) := by
  obtain ⟨es', clock, _, F, _, hD⟩ := h
  injection hD with hD
  subst hD
  intro p hp
  obtain ⟨x, hx, rfl⟩ := List.mem_map.1 (mem_sorted.1 hp)
  obtain ⟨y, hy⟩ := F.reads x hx
  have h5 : keyOf Try.prog 9 x.key = some y.1 := rd_key hy
  obtain ⟨s, _, h2, _⟩ := keyOf_str_inv h5
  rw [rg_of hy, h2]
  rfl

section
variable {S : Prop} {w w' : World} {own own' : Owner} {db fb rb : Nat} {D D' E E' : DataW Unit} {n n' : Nat} {m : DevM}

/-- The names of a device's files, told as a list, give how many they are, and how many bytes. -/
theorem Dev.size_of (h : Dev S w own db fb rb D E n m) (names : List (List UInt8)) (hnd : names.Nodup) (hm : ∀ k, (m.files k).isSome = true ↔ k ∈ names) :
    Maps.size D = names.length ∧ usedD D m.files = (names.map fun k => flen m.files (.string k)).sum := by
  obtain ⟨c, hc⟩ := h.fmap
  obtain ⟨es, rfl, hap, _⟩ := hc.entries lawS
  have hst := ownsMap_strs hc
  have hdom := h.dom
  have hk : es.map (·.1) = (es.map fun p => keyS p.1).map Lit.string := by
    rw [List.map_map]
    exact List.map_congr_left (fun p hp => hst p hp)
  have hnd2 : (es.map fun p => keyS p.1).Nodup := by
    rw [List.nodup_iff_pairwise_ne, List.pairwise_map]
    refine hap.imp_of_mem (fun {p q} hp hq hne e => hne ?_)
    rw [hst p hp, hst q hq, e]
  have hmem : ∀ k, k ∈ (es.map fun p => keyS p.1) ↔ k ∈ names := fun k => by
    rw [← hm k, ← hdom k]
    constructor
    · intro hk1
      obtain ⟨p, hp, rfl⟩ := List.mem_map.1 hk1
      refine List.any_eq_true.2 ⟨p, hp, ?_⟩
      rw [← hst p hp]
      rw [hst p hp]
      exact WideAt.sameKey_self trivial
    · intro hk1
      obtain ⟨p, hp, hpk⟩ := List.any_eq_true.1 hk1
      exact List.mem_map.2 ⟨p, hp, by rw [WideAt.sameKey_eq hpk]; rfl⟩
  have hperm : (es.map fun p => keyS p.1).Perm names := (List.perm_ext_iff_of_nodup hnd2 hnd).2 hmem
  refine ⟨?_, ?_⟩
  · have := hperm.length_eq
    simpa [Maps.size] using this
  · have e1 : usedD (.map es) m.files = ((es.map fun p => keyS p.1).map fun k => flen m.files (.string k)).sum := by
      rw [List.map_map]
      simp only [usedD, sumL, entsOf]
      congr 1
      exact List.map_congr_left (fun p hp => by rw [hst p hp]; rfl)
    rw [e1]
    exact (hperm.map _).sum_nat

theorem Dev.alloc (h : Dev S w own db fb rb D E n m) (o : Obj) : Dev S (w.alloc o) own db fb rb D E n m := h.fr (T := fun _ => False) (Fr.of_below ((Below.refl _ _).alloc (Nat.le_refl _) _)) (fun _ _ h => h)
theorem alloc_step (own : Owner) (w : World) (o : Obj) : Step own own w (w.alloc o) := Step.of_fr (Fr.of_below ((Below.refl _ _).alloc (Nat.le_refl _) _))
theorem Dev.below (h : Dev S w own db fb rb D E n m) (hb : Below w.heap.size w w') : Dev S w' own db fb rb D E n m := h.fr (T := fun _ => False) (Fr.of_below hb) (fun _ _ h => h)
theorem below_step (own : Owner) (hb : Below w.heap.size w w') : Step own own w w' := Step.of_fr (Fr.of_below hb)

/-- Bytes in a new block. -/
theorem BArg.new {cs : Array Value} {t : TypeId} {fz : Nat × Nat} {bs : List UInt8} (c : Nat) (ho : own w.heap.size = none) (hc : ∀ (j : Nat) (x : UInt8), bs[j]? = some x → cs[j]? = some (Value.int .u8 x.toNat)) : BArg (w.alloc (.cells cs t fz)) own (.slice (some ⟨w.heap.size, 0, none⟩) bs.length c) bs := by
  refine Or.inr ⟨_, c, rfl, fun _ => ho, fun j x hx => ?_⟩
  have hadd : (⟨w.heap.size, 0, none⟩ : Addr).add j = ⟨w.heap.size, j, none⟩ := by unfold Addr.add; split <;> simp_all
  rw [hadd]
  exact cell_of_blk (heap_alloc_new w _) (hc j x hx)

/-- Names and numbers in a new block. -/
theorem KArg.new {cs : Array Value} {t : TypeId} {ks : List (ByteArray × Int)} (c : Nat) (ho : own w.heap.size = none) (hc : ∀ (j : Nat) (s : ByteArray) (m : Int), ks[j]? = some (s, m) → cs[j * 2]? = some (Value.string s) ∧ cs[j * 2 + 1]? = some (Value.int .i64 m) ∧ s.size ≤ maxLen ∧ (Lit.int .i64 m).wf = true) :
    KArg (w.alloc (.cells cs t)) own (.slice (some ⟨w.heap.size, 0, none⟩) ks.length c) ks := by
  refine Or.inr ⟨_, c, rfl, fun _ => ho, fun j s m hj => ?_⟩
  have hadd : ∀ i, (⟨w.heap.size, 0, none⟩ : Addr).add i = ⟨w.heap.size, i, none⟩ := fun i => by unfold Addr.add; split <;> simp_all
  obtain ⟨h1, h2, h3⟩ := hc j s m hj
  rw [hadd, hadd]
  exact ⟨cell_of_blk (heap_alloc_new w _) h1, cell_of_blk (heap_alloc_new w _) h2, h3⟩

def newM (room : Int) : DevM := { room := room, acts := 0, fuse := -1, down := false, files := fun _ => none, gone := fun _ => none }

/-- 'New'. -/
theorem Dev.new (S : Prop) (w : World) (room : Int) (hr : -9223372036854775808 ≤ room ∧ room ≤ 9223372036854775807) :
    Calls Try.prog 34 #[.int .i64 room] w fun e w' => e = .returned (.pointer (some ⟨w.heap.size + 2, 0, none⟩)) ∧ ∃ own, Dev S w' own (w.heap.size + 2) w.heap.size (w.heap.size + 1) (.map []) (.map []) 0 (newM room) ∧ Step (fun _ => none) own w w' := by
  refine (new_calls room w).mono ?_
  rintro e w' ⟨rfl, rfl⟩
  refine ⟨rfl, fun b => if b = w.heap.size + 2 then some (0, []) else if b = w.heap.size then some (1, []) else if b = w.heap.size + 1 then some (2, []) else none, ?_, ?_⟩
  · have h0 := World.ownsMap_made w Try.prog 9 ptrR
    have h1 := World.ownsMap_made (w.alloc (.map #[] 0)) Try.prog 9 slR
    have e1 : (w.alloc (.map #[] 0)).heap.size = w.heap.size + 1 := by simp
    rw [e1] at h1
    exact {
      blk := by
        have h := heap_alloc_new ((w.alloc (.map #[] 0)).alloc (.map #[] 0)) (.cells #[.int .i64 room, .map (some w.heap.size), .map (some (w.heap.size + 1)), .int .i64 0, .int .i64 (-1), .bool false] 65)
        have e2 : ((w.alloc (.map #[] 0)).alloc (.map #[] 0)).heap.size = w.heap.size + 2 := by simp
        rw [e2] at h
        exact h
      fmap := ⟨0, (h0.alloc _).alloc _⟩
      rmap := ⟨0, h1.alloc _⟩
      cnt := by simp [Maps.size]
      dom := fun k => rfl
      rdom := fun k hk => by cases hk
      rback := fun _ k hk => by cases hk
      fil := fun k f hf => by cases hf
      rem := fun k d hd => by cases hd
      odb := by simp
      ofb := by simp
      orb := by simp
      old := fun b hb => by
        simp at hb
        show (if b = w.heap.size + 2 then _ else if b = w.heap.size then _ else if b = w.heap.size + 1 then _ else _) = _
        rw [if_neg (by omega), if_neg (by omega), if_neg (by omega)]
      rroom := hr
      rfuse := by simp [newM]
      racts := by simp [newM] }
  · refine ⟨Fr.of_below ((((Below.refl _ _).alloc (Nat.le_refl _) _).alloc (by simp) _).alloc (by simp; omega) _), fun b hb _ => ?_⟩
    show (if b = w.heap.size + 2 then _ else if b = w.heap.size then _ else if b = w.heap.size + 1 then _ else _) = _
    rw [if_neg (by omega), if_neg (by omega), if_neg (by omega)]

end

set_option maxRecDepth 100000 in
/-- 'string(b)' of bytes that are owned. -/
theorem conv_row {w : World} {base : Nat} {v : Value} {d : List UInt8} (h : w.ownsRow base 5 1 v d.length (byteCells d)) : (convert 31 9 v).run Try.prog w = .ok (.string ⟨d.toArray⟩) w := by
  have hcells := fun g hg => h.cells (g := g) hg
  rcases h.2 with ⟨rfl, h0⟩ | ⟨g, cap, cur, rfl, _⟩
  · obtain rfl : d = [] := List.eq_nil_of_length_eq_zero h0
    exact run_convert_bytes_nil w 31 5 Try.underlying31 Try.underlying5 0 0 9 Try.underlying9
  · have hr := run_convert_bytes_arg w 31 5 Try.underlying31 Try.underlying5 g 0 d.length cap (d.map fun b => (b.toNat : Int)) (by simp) (fun i hi => by
      have h1 := hcells g rfl i (.int .u8 (d[i]).toNat) (by simp [byteCells, hi])
      have hadd : (⟨g, 0, none⟩ : Addr).add i = ⟨g, i, none⟩ := by unfold Addr.add; split <;> simp_all
      rw [hadd] at h1
      rw [Nat.zero_add, h1]
      simp [List.getD, hi]) 9 Try.underlying9
    rw [hr]
    congr 2
    apply ByteArray.ext
    simp only [strOfNums]
    congr 1
    rw [List.map_map]
    exact (List.map_congr_left (fun b _ => by simp)).trans (List.map_id _)

/-- '[]byte(s)'. -/
theorem conv_str (w : World) (s : ByteArray) : (convert 9 31 (.string s)).run Try.prog w = .ok (.slice (some ⟨w.heap.size, 0, none⟩) s.size (grownCap w s.size 0 5)) (bytesWorld w 5 s) :=
  Lib.run_convert_string_bytes w 9 31 5 s Try.underlying9 Try.underlying31 Try.underlying5

theorem bytesWorld_below' (w : World) (s : ByteArray) : Below w.heap.size w (bytesWorld w 5 s) :=
  ⟨rfl, rfl, rfl, by rw [bytesWorld_size]; omega, fun k hk => bytesWorld_at_old w _ s k hk⟩

theorem BArg.conv {own : Owner} (w : World) (s : ByteArray) (c : Nat) (ho : own w.heap.size = none) : BArg (bytesWorld w 5 s) own (.slice (some ⟨w.heap.size, 0, none⟩) s.size c) s.data.toList := by
  refine Or.inr ⟨⟨w.heap.size, 0, none⟩, c, by simp, fun _ => ho, fun j x hx => ?_⟩
  have hadd : (⟨w.heap.size, 0, none⟩ : Addr).add j = ⟨w.heap.size, j, none⟩ := by unfold Addr.add; split <;> simp_all
  obtain ⟨hj, rfl⟩ := List.getElem?_eq_some_iff.1 hx
  have hj' : j < s.data.size := by simpa using hj
  rw [hadd, bytesWorld_cell w 5 s j hj']
  have e1 : s.data.toList.getD j 0 = s.data.toList[j] := by rw [List.getD_eq_getElem?_getD, List.getElem?_eq_getElem hj]; rfl
  rw [e1]

end Go.Proofs.Ytgkhnimdlkdaaaa
