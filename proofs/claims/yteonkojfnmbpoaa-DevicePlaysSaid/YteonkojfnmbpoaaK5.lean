/- What a device's calls leave, in plain words: how many acts; whose names are told; crashes behind crashes. | The document's own device: a row of its files in memory, and what stays of it while others write. | The document's own device: files but for one; files with one in its place. | The document's own device: files with one more, in its place. | The document's own device: put. -/
import Derived.Test.YteonkojfnmbpoaaK4
import Derived.Sort.KeysCollected
import Derived.Sort.Walk0
namespace Go.Proofs.Yteonkojfnmbpoaa
open Go.RowKit Go.Lib Go.Maps Go.ChangeMaps Go.Sort

theorem appendM_acts (m : DevM) (sz used : Nat) (k bs : List UInt8) : (appendM m sz used k bs).1.acts ≤ m.acts + 1 := by
  unfold appendM
  split
  · show m.acts ≤ _; omega
  · split
    · show m.acts ≤ _; omega
    · split
      · show m.acts ≤ _; omega
      · split
        · show m.acts ≤ _; omega
        · exact Int.le_refl _

theorem removeM_acts (m : DevM) (k : List UInt8) : (removeM m k).1.acts ≤ m.acts + 1 := by
  unfold removeM
  split
  · show m.acts ≤ _; omega
  · split
    · show m.acts ≤ _; omega
    · split
      · show m.acts ≤ _; omega
      · exact Int.le_refl _

theorem syncM_acts (m : DevM) : (syncM m).1.acts ≤ m.acts + 1 := by
  unfold syncM
  split
  · show m.acts ≤ _; omega
  · exact Int.le_refl _

theorem doesM_acts (m : DevM) (sz used : Nat) (o : OpV) : (doesM m sz used o).1.acts ≤ m.acts + 1 := by
  unfold doesM
  split
  · exact appendM_acts _ _ _ _ _
  · split
    · exact removeM_acts _ _
    · split
      · exact syncM_acts _
      · show m.acts ≤ _; omega

theorem crashF_settleF (ks : List (ByteArray × Int)) (k : List UInt8) (f : FileM) : crashF ks k (settleF f) = some (settleF f) := by
  have e1 : cutK ks k (settleF f) = f.data.length := by simp only [cutK, settleF]; omega
  simp [crashF, e1]
  simp [settleF]

theorem settleF_twice (f : FileM) : settleF (settleF f) = settleF f := rfl

theorem crashM_files (ks : List (ByteArray × Int)) (m : DevM) (k : List UInt8) : (crashM ks m).files k = (crashFiles ks m k).map settleF := rfl

/-- A crash behind a crash changes nothing. -/
theorem crash_crash (ks ks' : List (ByteArray × Int)) (m : DevM) : crashM ks' (crashM ks m) = crashM ks m := by
  have h : (fun k => (crashFiles ks' (crashM ks m) k).map settleF) = (crashM ks m).files := by
    funext k
    have e1 : crashFiles ks' (crashM ks m) k = ((crashM ks m).files k).bind (crashF ks' k) := rfl
    rw [e1, crashM_files]
    cases crashFiles ks m k with
    | none => rfl
    | some f => simp [crashF_settleF, settleF_twice]
  unfold crashM at h ⊢
  simp only [h]

/-- Nor does a Sync. -/
theorem sync_crash (ks : List (ByteArray × Int)) (m : DevM) : (syncM (crashM ks m)).2 = 0 ∧ (syncM (crashM ks m)).1.files = (crashM ks m).files := by
  refine ⟨rfl, ?_⟩
  have e1 : (syncM (crashM ks m)).1.files = fun k => ((crashM ks m).files k).map settleF := rfl
  rw [e1]
  funext k
  rw [crashM_files]
  cases crashFiles ks m k with
  | none => rfl
  | some f => simp [settleF_twice]

section
variable {S S' : Prop} {w w' : World} {own own' : Owner} {db fb rb : Nat} {D D' E E' : DataW Unit} {n n' : Nat} {m m' : DevM}

/-- The names of a device's files. -/
theorem Dev.keys (h : Dev S w own db fb rb D E n m) : (strKeys D).Nodup ∧ ∀ k, k ∈ strKeys D ↔ (m.files k).isSome = true := by
  obtain ⟨c, hc⟩ := h.fmap
  obtain ⟨es, rfl, hap, _⟩ := hc.entries lawS
  have hst := ownsMap_strs hc
  have hdom := h.dom
  have hk : ∀ p : Lit × DataW Unit, strOf p.1 = keyS p.1 := fun p => by cases p.1 <;> rfl
  refine ⟨?_, fun k => ?_⟩
  · show (es.map fun p => strOf p.1).Nodup
    rw [List.nodup_iff_pairwise_ne, List.pairwise_map]
    refine hap.imp_of_mem (fun {p q} hp hq hne e => hne ?_)
    rw [hk, hk] at e
    rw [hst p hp, hst q hq, e]
  · show k ∈ (es.map fun p => strOf p.1) ↔ _
    rw [← hdom k]
    constructor
    · intro hk1
      obtain ⟨p, hp, rfl⟩ := List.mem_map.1 hk1
      refine List.any_eq_true.2 ⟨p, hp, ?_⟩
      rw [hk, ← hst p hp]
      rw [hst p hp]
      exact WideAt.sameKey_self trivial
    · intro hk1
      obtain ⟨p, hp, hpk⟩ := List.any_eq_true.1 hk1
      exact List.mem_map.2 ⟨p, hp, by rw [WideAt.sameKey_eq hpk]; rfl⟩

/-- Two devices of the same files tell the same names, and have as many bytes. -/
theorem Dev.same (h : Dev S w own db fb rb D E n m) {db' fb' rb' : Nat} (h' : Dev S' w' own' db' fb' rb' D' E' n' m') (hf : m'.files = m.files) : (strKeys D').Perm (strKeys D) ∧ Maps.size D' = Maps.size D ∧ usedD D' m'.files = usedD D m.files := by
  obtain ⟨h1, h2⟩ := h.keys
  obtain ⟨h3, h4⟩ := h'.keys
  have hp : (strKeys D').Perm (strKeys D) := (List.perm_ext_iff_of_nodup h3 h1).2 fun k => by rw [h2, h4, hf]
  have s1 := h.size_of (strKeys D) h1 (fun k => (h2 k).symm)
  have s2 := h'.size_of (strKeys D) h1 (fun k => by rw [hf]; exact (h2 k).symm)
  exact ⟨hp, s2.1.trans s1.1.symm, by rw [s2.2, s1.2, hf]⟩

end

/-- Names that a device does not own. -/
def NRow (w : World) (own : Owner) (a : Option Addr) (ss : List (List UInt8)) : Prop := ∀ j s, ss[j]? = some s → ∃ ad, a = some ad ∧ own ad.block = none ∧ w.cell? (ad.add j) = some (encStr s)

theorem NRow.step {w w' : World} {own own' : Owner} {a : Option Addr} {ss : List (List UInt8)} (h : NRow w own a ss) (hs : Step own own' w w') : NRow w' own' a ss := fun j s hj => by
  obtain ⟨ad, h1, h2, h3⟩ := h j s hj
  have hlt := World.block_lt_of_cell? _ _ h3
  rw [add_block] at hlt
  exact ⟨ad, h1, hs.own _ hlt h2, hs.fr.cell h3 (by rw [add_block]; simp [h2])⟩

theorem NRow.of_owns {w : World} {own : Owner} {B : Nat} {v : Value} {ss : List (List UInt8)} (h : w.ownsRow B 9 1 v ss.length (ss.map encStr)) (ho : ∀ b, B ≤ b → own b = none) : ∃ a c, v = .slice a ss.length c ∧ NRow w own a ss := by
  have hc := fun g hg => h.cells (g := g) hg
  rcases h.2 with ⟨rfl, h0⟩ | ⟨g, cap, cur, rfl, hg, _⟩
  · obtain rfl : ss = [] := List.eq_nil_of_length_eq_zero h0
    exact ⟨none, 0, rfl, fun j s hj => by simp at hj⟩
  · exact ⟨_, cap, rfl, fun j s hj => ⟨_, rfl, ho g hg, hc g rfl j _ (by simp [hj])⟩⟩

end Go.Proofs.Yteonkojfnmbpoaa
namespace Go.Proofs.Yteonkojfnmbpoaa
open Go.RowKit Go.Lib Go.Maps Go.ChangeMaps Go.Sort

theorem toL_eq' (a : ByteArray) : a.toList = a.data.toList := ByteArray.toList_eq a

theorem infoRF : (Try.prog.info? 68).map (fun i => (i.zero, i.size, i.bytes)) = some (some (.agg #[.string .empty, .slice none 0 0, .int .i64 0, .bool false]), 4, 56) := by kernel_rfl

/-- A file of the document's. -/
structure RF where
  name : ByteArray
  da : Option Addr
  dc : Nat
  data : List UInt8
  done : Nat
  there : Bool

def RF.nm (f : RF) : List UInt8 := f.name.data.toList
def RF.cells (f : RF) : List Value := [.string f.name, .slice f.da f.data.length f.dc, .int .i64 f.done, .bool f.there]

structure FAt (w : World) (own : Owner) (A : Addr) (j : Nat) (f : RF) : Prop where
  c0 : w.cell? (A.add (j * 4)) = some (.string f.name)
  c1 : w.cell? (fld A 4 j 1) = some (.slice f.da f.data.length f.dc)
  c2 : w.cell? (fld A 4 j 2) = some (.int .i64 f.done)
  c3 : w.cell? (fld A 4 j 3) = some (.bool f.there)
  hname : f.name.size ≤ maxLen
  hb : BArg w own (.slice f.da f.data.length f.dc) f.data
  hcap : f.data.length ≤ f.dc
  hl : f.data.length ≤ 262144
  hdone : f.done ≤ f.data.length

/-- Files that can be read, in memory that none of the two owns. -/
def FRow (w : World) (own : Owner) (a : Option Addr) (fs : List RF) : Prop := ∀ j f, fs[j]? = some f → ∃ A, a = some A ∧ own A.block = none ∧ FAt w own A j f

theorem fld_block (A : Addr) (s j f : Nat) : (fld A s j f).block = A.block := add_block A (j * s)

theorem FAt.step {w w' : World} {own own' : Owner} {A : Addr} {j : Nat} {f : RF} (h : FAt w own A j f) (hA : own A.block = none) (hs : Step own own' w w') : FAt w' own' A j f where
  c0 := hs.fr.cell h.c0 (by rw [add_block]; simp [hA])
  c1 := hs.fr.cell h.c1 (by rw [fld_block]; simp [hA])
  c2 := hs.fr.cell h.c2 (by rw [fld_block]; simp [hA])
  c3 := hs.fr.cell h.c3 (by rw [fld_block]; simp [hA])
  hname := h.hname
  hb := h.hb.step hs
  hcap := h.hcap
  hl := h.hl
  hdone := h.hdone

theorem FRow.step {w w' : World} {own own' : Owner} {a : Option Addr} {fs : List RF} (h : FRow w own a fs) (hs : Step own own' w w') : FRow w' own' a fs := fun j f hj => by
  obtain ⟨A, h1, h2, h3⟩ := h j f hj
  have hlt := World.block_lt_of_cell? _ _ h3.c0
  rw [add_block] at hlt
  exact ⟨A, h1, hs.own _ hlt h2, h3.step h2 hs⟩

theorem FRow.below {w w' : World} {own : Owner} {a : Option Addr} {fs : List RF} (h : FRow w own a fs) (hb : Below w.heap.size w w') : FRow w' own a fs := h.step (below_step own hb)

def rfCells (fs : List RF) : List Value := (fs.map RF.cells).flatten

theorem rfCells_length (fs : List RF) : (rfCells fs).length = fs.length * 4 := by
  induction fs with
  | nil => rfl
  | cons f fs ih => simp only [rfCells, List.map_cons, List.flatten_cons, List.length_append, List.length_cons] at *; simp [RF.cells] at *; omega

theorem rfCells_append (a b : List RF) : rfCells (a ++ b) = rfCells a ++ rfCells b := by simp [rfCells]
theorem rfCells_one (f : RF) : rfCells [f] = f.cells := by simp [rfCells]

theorem rfCells_at : ∀ (fs : List RF) (j : Nat) (f : RF), fs[j]? = some f → ∀ i, i < 4 → (rfCells fs)[j * 4 + i]? = f.cells[i]?
  | g :: fs, 0, f, h, i, hi => by
    simp at h
    subst h
    have : (rfCells (g :: fs)) = g.cells ++ rfCells fs := by simp [rfCells]
    rw [this, Nat.zero_mul, Nat.zero_add, List.getElem?_append_left (by simp [RF.cells]; omega)]
  | g :: fs, j + 1, f, h, i, hi => by
    have h1 : fs[j]? = some f := by simpa using h
    have ih := rfCells_at fs j f h1 i hi
    have : (rfCells (g :: fs)) = g.cells ++ rfCells fs := by simp [rfCells]
    rw [this, List.getElem?_append_right (by simp [RF.cells]; omega)]
    rw [← ih]
    congr 1
    simp [RF.cells]
    omega

theorem rf_oneCell (f : RF) : ∀ u ∈ f.cells, u.oneCell' = true := by
  intro u hu
  simp [RF.cells] at hu
  rcases hu with rfl | rfl | rfl | rfl <;> rfl

/-- What is good of a file, wherever it stands. -/
structure FGood (w : World) (own : Owner) (f : RF) : Prop where
  hname : f.name.size ≤ maxLen
  hb : BArg w own (.slice f.da f.data.length f.dc) f.data
  hcap : f.data.length ≤ f.dc
  hl : f.data.length ≤ 262144
  hdone : f.done ≤ f.data.length

theorem FAt.good {w : World} {own : Owner} {A : Addr} {j : Nat} {f : RF} (h : FAt w own A j f) : FGood w own f := ⟨h.hname, h.hb, h.hcap, h.hl, h.hdone⟩
theorem FGood.step {w w' : World} {own own' : Owner} {f : RF} (h : FGood w own f) (hs : Step own own' w w') : FGood w' own' f := ⟨h.hname, h.hb.step hs, h.hcap, h.hl, h.hdone⟩

theorem FRow.good {w : World} {own : Owner} {a : Option Addr} {fs : List RF} (h : FRow w own a fs) : ∀ f ∈ fs, FGood w own f := fun f hf => by
  obtain ⟨j, hj, rfl⟩ := List.mem_iff_getElem.1 hf
  obtain ⟨A, _, _, h3⟩ := h j _ (List.getElem?_eq_getElem hj)
  exact h3.good

theorem FRow.of_owns {w : World} {own : Owner} {B : Nat} {v : Value} {n : Nat} {fs : List RF} (h : w.ownsRow B 68 4 v n (rfCells fs)) (ho : ∀ b, B ≤ b → own b = none) (hg : ∀ f ∈ fs, FGood w own f) : ∃ a c, v = .slice a fs.length c ∧ FRow w own a fs ∧ n = fs.length := by
  have hn : n = fs.length := by have := h.1; rw [rfCells_length] at this; omega
  subst hn
  have hc := fun g hg => h.cells (g := g) hg
  rcases h.2 with ⟨rfl, h0⟩ | ⟨g, cap, cur, rfl, hB, _⟩
  · obtain rfl : fs = [] := List.eq_nil_of_length_eq_zero h0
    exact ⟨none, 0, rfl, fun j s hj => by simp at hj, rfl⟩
  · refine ⟨_, cap, rfl, fun j f hj => ⟨_, rfl, ho g hB, ?_⟩, rfl⟩
    have hf := hg f (List.mem_of_getElem? hj)
    have hcell : ∀ i, i < 4 → ∀ u, f.cells[i]? = some u → w.cell? ((⟨g, 0, none⟩ : Addr).add (j * 4 + i)) = some u := fun i hi u hu => hc g rfl _ u (by rw [rfCells_at fs j f hj i hi]; exact hu)
    have hadd : ∀ i, (⟨g, 0, none⟩ : Addr).add i = ⟨g, i, none⟩ := fun i => by unfold Addr.add; split <;> simp_all
    have hfld : ∀ i, fld (⟨g, 0, none⟩ : Addr) 4 j i = (⟨g, 0, none⟩ : Addr).add (j * 4 + i) := fun i => by
      unfold fld
      rw [hadd, hadd]
    exact ⟨hcell 0 (by omega) _ rfl, by rw [hfld]; exact hcell 1 (by omega) _ rfl, by rw [hfld]; exact hcell 2 (by omega) _ rfl, by rw [hfld]; exact hcell 3 (by omega) _ rfl, hf.hname, hf.hb, hf.hcap, hf.hl, hf.hdone⟩

/-- Where a name stands; below 0: nowhere. -/
def findI (fs : List RF) (nm : List UInt8) : Int := match fs.findIdx? (fun f => f.nm == nm) with | some i => i | none => -1

theorem findI_here {fs : List RF} {nm : List UInt8} {k : Nat} {f : RF} (h : fs[k]? = some f) (he : f.nm = nm) (hall : ∀ (j : Nat) (g : RF), j < k → fs[j]? = some g → g.nm ≠ nm) : findI fs nm = k := by
  have h1 : fs.findIdx? (fun f => f.nm == nm) = some k := by
    rw [List.findIdx?_eq_some_iff_getElem]
    obtain ⟨hk, e⟩ := List.getElem?_eq_some_iff.1 h
    refine ⟨hk, by rw [e]; simpa using he, fun j hj => ?_⟩
    have := hall j fs[j] hj (List.getElem?_eq_getElem (by omega))
    simpa using this
  unfold findI
  rw [h1]
theorem findI_none {fs : List RF} {nm : List UInt8} (hall : ∀ (j : Nat) (g : RF), fs[j]? = some g → g.nm ≠ nm) : findI fs nm = -1 := by
  have h1 : fs.findIdx? (fun f => f.nm == nm) = none := by
    rw [List.findIdx?_eq_none_iff]
    intro f hf
    obtain ⟨j, hj⟩ := List.getElem?_of_mem hf
    simpa using hall j f hj
  unfold findI
  rw [h1]

set_option maxHeartbeats 1000000 in
set_option maxRecDepth 100000 in
theorem rfind_calls (w : World) (own : Owner) (a : Option Addr) (c : Nat) (fs : List RF) (name : ByteArray) (h : FRow w own a fs) (hl : fs.length ≤ 1000000) :
    Calls Try.prog 31 #[.slice a fs.length c, .string name] w fun e w' => e = .returned (.int .i64 (findI fs name.data.toList)) ∧ w = w' := by
  have H := Lib.hid h
  obtain ⟨z, hz⟩ : ∃ z, findI fs name.data.toList = z := ⟨_, rfl⟩
  rw [hz]
  have Hz := Lib.hid hz
  obtain ⟨l, hll⟩ : ∃ l, fs.length = l := ⟨_, rfl⟩
  rw [hll] at hl ⊢
  have Hl := Lib.hid hll
  clear h hz hll
  go_enter Try.func31, Try.ntmps31
  go_wp2
  go_loop [5] (fun i => ∃ k : Nat, k ≤ l ∧ i = .int .i64 k ∧ Hid (∀ (j : Nat) (g : RF), j < k → fs[j]? = some g → g.nm ≠ name.data.toList)) (fun i => l - (intOf i).toNat)
  case atStart => exact ⟨0, Nat.zero_le _, rfl, fun j g hj => absurd hj (Nat.not_lt_zero j)⟩
  case round =>
    obtain ⟨k, hk, rfl, Hall⟩ := hrel
    by_cases hlt : k < l
    · obtain ⟨f, hf⟩ : ∃ f, fs[k]? = some f := ⟨_, List.getElem?_eq_getElem (by rw [Hl.out]; exact hlt)⟩
      obtain ⟨A, rfl, _, hat⟩ := H.out k f hf
      have c0 := hat.c0
      by_cases he : f.nm = name.data.toList
      · have ht : (f.name.toList == name.toList) = true := by rw [toL_eq', toL_eq']; exact beq_iff_eq.2 he
        obtain rfl : z = k := Hz.out.symm.trans (findI_here hf he Hall.out)
        clear hf hat he
        go_wp2
        go_ret
        exact ⟨rfl, rfl⟩
      · have ht : (f.name.toList == name.toList) = false := by rw [toL_eq', toL_eq']; exact beq_eq_false_iff_ne.2 he
        have Hall' : Hid (∀ (j : Nat) (g : RF), j < k + 1 → fs[j]? = some g → g.nm ≠ name.data.toList) := fun j g hj hg => by
          rcases Nat.lt_succ_iff_lt_or_eq.1 hj with h | h
          · exact Hall.out j g h hg
          · subst h; rw [hf] at hg; injection hg with hg; rw [← hg]; exact he
        clear hf hat he
        go_wp2
        go_round
        case rel => exact ⟨k + 1, by omega, by go_num, Hall'⟩
        case measure => simp [intOf]; omega
    · obtain rfl : z = -1 := Hz.out.symm.trans (findI_none (fun j g hg => Hall.out j g (by have := (List.getElem?_eq_some_iff.1 hg).1; rw [Hl.out] at this; omega) hg))
      go_wp2
      go_ret
      exact ⟨rfl, rfl⟩

end Go.Proofs.Yteonkojfnmbpoaa
namespace Go.Proofs.Yteonkojfnmbpoaa
open Go.RowKit Go.Lib Go.Maps Go.ChangeMaps Go.Sort

theorem rf_new (w : World) (f : RF) : ∀ j u, f.cells[j]? = some u → (w.alloc (.cells #[.string f.name, .slice f.da f.data.length f.dc, .int .i64 f.done, .bool f.there] 68)).cell? ((⟨w.heap.size, 0, none⟩ : Addr).add j) = some u := by
  intro j u hu
  have hadd : (⟨w.heap.size, 0, none⟩ : Addr).add j = ⟨w.heap.size, j, none⟩ := by unfold Addr.add; split <;> simp_all
  rw [hadd]
  refine cell_of_blk (heap_alloc_new w _) ?_
  simpa [RF.cells] using hu

def withoutL (fs : List RF) (nm : List UInt8) : List RF := fs.filter fun f => !(f.nm == nm)

theorem withoutL_take {fs : List RF} {nm : List UInt8} {k : Nat} {f : RF} (h : fs[k]? = some f) : withoutL (fs.take (k + 1)) nm = if f.nm = nm then withoutL (fs.take k) nm else withoutL (fs.take k) nm ++ [f] := by
  rw [List.take_add_one, h]
  simp only [withoutL, List.filter_append, Option.toList_some]
  by_cases e : f.nm = nm <;> simp [e]

/-- Files in new memory. -/
def FilesPost (w : World) (own : Owner) (fs : List RF) (e : Ending) (w' : World) : Prop := ∃ a c, e = .returned (.slice a fs.length c) ∧ FRow w' own a fs ∧ Below w.heap.size w w'

set_option maxHeartbeats 2000000 in
set_option maxRecDepth 100000 in
theorem rwithout_calls (w : World) (own : Owner) (a : Option Addr) (c : Nat) (fs : List RF) (name : ByteArray) (h : FRow w own a fs) (hl : fs.length ≤ 1000000) (ho : ∀ b, w.heap.size ≤ b → own b = none) :
    Calls Try.prog 41 #[.slice a fs.length c, .string name] w (FilesPost w own (withoutL fs name.data.toList)) := by
  obtain ⟨i0, hi, hz0, hz1, hz2⟩ := info_parts infoRF
  have H := Lib.hid h
  have Ho := Lib.hid ho
  obtain ⟨l, hll⟩ : ∃ l, fs.length = l := ⟨_, rfl⟩
  rw [hll] at hl ⊢
  have Hl := Lib.hid hll
  clear h ho hll
  go_enter Try.func41, Try.ntmps41
  go_wp2
  go_loopw [5, 6] (fun v i wr => ∃ k : Nat, k ≤ l ∧ i = .int .i64 k ∧ Hid (wr.ownsRow w.heap.size 68 4 v (withoutL (fs.take k) name.data.toList).length (rfCells (withoutL (fs.take k) name.data.toList))) ∧ Hid (Below w.heap.size w wr)) (fun _ i _ => l - (intOf i).toNat)
  case atStart => exact ⟨0, Nat.zero_le _, rfl, World.ownsRow_nil _ _ _ _, Below.refl _ _⟩
  case round =>
    obtain ⟨k, hk, rfl, Hown, Hb⟩ := hrel
    by_cases hlt : k < l
    · obtain ⟨f, hf⟩ : ∃ f, fs[k]? = some f := ⟨_, List.getElem?_eq_getElem (by rw [Hl.out]; exact hlt)⟩
      obtain ⟨A, rfl, _, hat⟩ := (H.out.below Hb.out) k f hf
      have hw := withoutL_take (nm := name.data.toList) hf
      have c0 := hat.c0
      by_cases he : f.nm = name.data.toList
      · have ht : (f.name.toList == name.toList) = true := by rw [toL_eq', toL_eq']; exact beq_iff_eq.2 he
        rw [if_pos he] at hw
        have Hw := Lib.hid hw
        clear hf hat he hw
        go_wp2
        go_roundw
        case rel => exact ⟨k + 1, by omega, by go_num, by rw [Hw.out]; exact Hown, Hb⟩
        case measure => simp [intOf]; omega
      · have ht : (f.name.toList == name.toList) = false := by rw [toL_eq', toL_eq']; exact beq_eq_false_iff_ne.2 he
        rw [if_neg he] at hw
        have Hw := Lib.hid hw
        have c1 := hat.c1
        have c2 := hat.c2
        have c3 := hat.c3
        unfold fld at c1 c2 c3
        have hcnt : (withoutL (fs.take k) name.data.toList).length + 1 ≤ 1000001 := by
          have h1 : (withoutL (fs.take k) name.data.toList).length ≤ (fs.take k).length := List.length_filter_le _ _
          have h2 := List.length_take_le k fs
          omega
        have HO2 := Lib.hid (Hown.out.alloc (.cells #[.string f.name, .slice f.da f.data.length f.dc, .int .i64 f.done, .bool f.there] 68))
        have HB2 := Lib.hid (Hb.out.alloc Hb.out.size (.cells #[.string f.name, .slice f.da f.data.length f.dc, .int .i64 f.done, .bool f.there] 68))
        clear hf hat he hw
        go_wp2_with (first
          | (at_builtin; refine wpList_append_own _ rfl (.tmp 20) (.tmp 25) 63 rfl w.heap.size 68 i0 (.agg #[.string .empty, .slice none 0 0, .int .i64 0, .bool false]) 4 56 Try.underlying63 hi hz0 hz1 hz2 rfl (by decide) _ _ _ rfl HO2.out ⟨wr.heap.size, 0, none⟩ 1 1 f.cells rfl rfl (rf_new wr f) (rf_oneCell f) (by unfold maxLen; omega) (by omega) HB2.out.size ?_; intro v3 w3 hown3 hgrow3 hnil3))
        have HB3 := Lib.hid (HB2.out.grown hgrow3 HB2.out.size (fun q hq => (HO2.out.lt q hq).1))
        have hown4 : w3.ownsRow w.heap.size 68 4 v3 (withoutL (fs.take (k + 1)) name.data.toList).length (rfCells (withoutL (fs.take (k + 1)) name.data.toList)) := by
          rw [Hw.out, List.length_append, rfCells_append, rfCells_one]
          exact hown3
        have HO4 := Lib.hid hown4
        clear hown3 hgrow3 hnil3 hown4
        go_wp2_with fail
        go_roundw
        case rel => exact ⟨k + 1, by omega, by go_num, HO4, HB3⟩
        case measure => simp [intOf]; omega
    · have hfin : fs.take k = fs := by rw [show k = l by omega, ← Hl.out]; exact List.take_length
      have h1 := Hown.out
      rw [hfin] at h1
      have hgood := (H.out.below Hb.out).good
      obtain ⟨a1, c1, hv, hrow, _⟩ := FRow.of_owns (own := own) h1 Ho.out (fun f hf => hgood f (List.mem_filter.1 hf).1)
      subst hv
      have Hrow := Lib.hid hrow
      clear h1 hgood hrow hfin
      go_wp2
      go_ret
      exact ⟨a1, c1, rfl, Hrow.out, Hb.out⟩

end Go.Proofs.Yteonkojfnmbpoaa
namespace Go.Proofs.Yteonkojfnmbpoaa
open Go.RowKit Go.Lib Go.Maps Go.ChangeMaps Go.Sort

def stepP (x : RF) (p : List RF × Bool) (f : RF) : List RF × Bool :=
  let q : List RF × Bool := if !p.2 && !decide (f.nm < x.nm) then (p.1 ++ [x], true) else p
  if f.nm = x.nm then q else (q.1 ++ [f], q.2)
def putP (x : RF) (fs : List RF) : List RF × Bool := fs.foldl (stepP x) ([], false)
def putL (fs : List RF) (x : RF) : List RF := if (putP x fs).2 then (putP x fs).1 else (putP x fs).1 ++ [x]

theorem putP_take {x : RF} {fs : List RF} {k : Nat} {f : RF} (h : fs[k]? = some f) : putP x (fs.take (k + 1)) = stepP x (putP x (fs.take k)) f := by
  rw [List.take_add_one, h]
  simp [putP, List.foldl_append]

theorem stepP_len (x : RF) (p : List RF × Bool) (f : RF) : (stepP x p f).1.length ≤ p.1.length + 2 := by
  unfold stepP
  split
  · split <;> simp
  · split <;> simp
theorem putP_len (x : RF) (fs : List RF) : ∀ k, (putP x (fs.take k)).1.length ≤ 2 * k
  | 0 => by simp [putP]
  | k + 1 => by
    have ih := putP_len x fs k
    cases h : fs[k]? with
    | none =>
      have : fs.take (k + 1) = fs.take k := by rw [List.take_add_one, h]; simp
      rw [this]
      omega
    | some f =>
      rw [putP_take h]
      have := stepP_len x (putP x (fs.take k)) f
      omega

theorem stepP_mem (x : RF) (p : List RF × Bool) (f : RF) : ∀ g ∈ (stepP x p f).1, g ∈ p.1 ∨ g = x ∨ g = f := by
  intro g hg
  unfold stepP at hg
  dsimp only at hg
  by_cases h1 : (!p.2 && !decide (f.nm < x.nm)) = true
  · rw [if_pos h1] at hg
    by_cases h2 : f.nm = x.nm
    · rw [if_pos h2] at hg
      rcases List.mem_append.1 hg with h | h
      · exact Or.inl h
      · exact Or.inr (Or.inl (by simpa using h))
    · rw [if_neg h2] at hg
      rcases List.mem_append.1 hg with h | h
      · rcases List.mem_append.1 h with h | h
        · exact Or.inl h
        · exact Or.inr (Or.inl (by simpa using h))
      · exact Or.inr (Or.inr (by simpa using h))
  · rw [if_neg h1] at hg
    by_cases h2 : f.nm = x.nm
    · rw [if_pos h2] at hg
      exact Or.inl hg
    · rw [if_neg h2] at hg
      rcases List.mem_append.1 hg with h | h
      · exact Or.inl h
      · exact Or.inr (Or.inr (by simpa using h))

theorem putP_mem (x : RF) : ∀ (fs : List RF) (p : List RF × Bool), ∀ g ∈ (fs.foldl (stepP x) p).1, g ∈ p.1 ∨ g = x ∨ g ∈ fs
  | [], p, g, hg => Or.inl hg
  | f :: fs, p, g, hg => by
    rcases putP_mem x fs (stepP x p f) g hg with h | h | h
    · rcases stepP_mem x p f g h with h | h | h
      · exact Or.inl h
      · exact Or.inr (Or.inl h)
      · exact Or.inr (Or.inr (by simp [h]))
    · exact Or.inr (Or.inl h)
    · exact Or.inr (Or.inr (by simp [h]))

theorem putL_mem {x : RF} {fs : List RF} : ∀ g ∈ putL fs x, g = x ∨ g ∈ fs := by
  intro g hg
  unfold putL at hg
  have h0 : ∀ g ∈ (putP x fs).1, g = x ∨ g ∈ fs := fun g hg => by
    rcases putP_mem x fs ([], false) g hg with h | h | h
    · cases h
    · exact Or.inl h
    · exact Or.inr h
  split at hg
  · exact h0 g hg
  · rcases List.mem_append.1 hg with h | h
    · exact h0 g h
    · exact Or.inl (by simpa using h)

def rfVal (f : RF) : Value := .agg #[.string f.name, .slice f.da f.data.length f.dc, .int .i64 f.done, .bool f.there]
def rfObj (f : RF) : Obj := .cells #[.string f.name, .slice f.da f.data.length f.dc, .int .i64 f.done, .bool f.there] 68

/-- A file in a block of its own. -/
structure BoxAt (w : World) (b : Nat) (x : RF) : Prop where
  b0 : w.cell? ⟨b, 0, none⟩ = some (.string x.name)
  b1 : w.cell? ⟨b, 1, none⟩ = some (.slice x.da x.data.length x.dc)
  b2 : w.cell? ⟨b, 2, none⟩ = some (.int .i64 x.done)
  b3 : w.cell? ⟨b, 3, none⟩ = some (.bool x.there)

theorem BoxAt.new (w : World) (x : RF) : BoxAt (w.alloc (rfObj x)) w.heap.size x := ⟨cell_of_blk (heap_alloc_new w _) rfl, cell_of_blk (heap_alloc_new w _) rfl, cell_of_blk (heap_alloc_new w _) rfl, cell_of_blk (heap_alloc_new w _) rfl⟩
theorem BoxAt.below {w w' : World} {B b : Nat} {x : RF} (h : BoxAt w b x) (hb : Below B w w') (hlt : b < B) : BoxAt w' b x :=
  ⟨(hb.cell (p := ⟨b, 0, none⟩) hlt).trans h.b0, (hb.cell (p := ⟨b, 1, none⟩) hlt).trans h.b1, (hb.cell (p := ⟨b, 2, none⟩) hlt).trans h.b2, (hb.cell (p := ⟨b, 3, none⟩) hlt).trans h.b3⟩

theorem FRow.at {w : World} {own : Owner} {A : Addr} {fs : List RF} (h : FRow w own (some A) fs) {k : Nat} {f : RF} (hf : fs[k]? = some f) : FAt w own A k f := by
  obtain ⟨A', e, _, h1⟩ := h k f hf
  injection e with e
  rw [e]
  exact h1

theorem stepP_keep {x : RF} {p : List RF × Bool} {f : RF} (h : p.2 = true ∨ f.nm < x.nm) : stepP x p f = if f.nm = x.nm then p else (p.1 ++ [f], p.2) := by
  have hq : (!p.2 && !decide (f.nm < x.nm)) = false := by rcases h with h | h <;> simp [h]
  unfold stepP
  rw [hq]
  rfl
theorem stepP_ins {x : RF} {p : List RF × Bool} {f : RF} (h : p.2 = false) (h2 : ¬ f.nm < x.nm) : stepP x p f = if f.nm = x.nm then (p.1 ++ [x], true) else (p.1 ++ [x] ++ [f], true) := by
  have hq : (!p.2 && !decide (f.nm < x.nm)) = true := by simp [h, h2]
  unfold stepP
  rw [hq]
  rfl

theorem FGood.below {w w' : World} {own : Owner} {f : RF} (h : FGood w own f) (hb : Below w.heap.size w w') : FGood w' own f := h.step (below_step own hb)

theorem drew_owns {w w1 : World} {n B t s c : Nat} {v : Value} {cs : List Value} (h : Hid (w.ownsRow B t s v c cs)) (hw : w1 = w.drewN n) : Hid (w1.ownsRow B t s v c cs) := by
  rw [hw]
  exact h
theorem drew_belowH {w0 w w1 : World} {n B : Nat} (h : Hid (Below B w0 w)) (hw : w1 = w.drewN n) : Hid (Below B w0 w1) := by
  rw [hw]
  exact below_drewN h.out _

end Go.Proofs.Yteonkojfnmbpoaa
namespace Go.Proofs.Yteonkojfnmbpoaa
open Go.RowKit Go.Lib Go.Maps Go.ChangeMaps Go.Sort

set_option maxHeartbeats 8000000 in
set_option maxRecDepth 100000 in
theorem rput_calls (w : World) (own : Owner) (a : Option Addr) (c : Nat) (fs : List RF) (x : RF) (h : FRow w own a fs) (hl : fs.length ≤ 1000000) (hx : FGood w own x) (ho : ∀ b, w.heap.size ≤ b → own b = none) :
    Calls Try.prog 32 #[.slice a fs.length c, rfVal x] w (FilesPost w own (putL fs x)) := by
  obtain ⟨i0, hi, hz0, hz1, hz2⟩ := info_parts infoRF
  have H := Lib.hid h
  have Hx := Lib.hid hx
  have Ho := Lib.hid ho
  obtain ⟨l, hll⟩ : ∃ l, fs.length = l := ⟨_, rfl⟩
  rw [hll] at hl ⊢
  have Hl := Lib.hid hll
  obtain ⟨w0, hw0⟩ : ∃ w0, w0 = w.alloc (rfObj x) := ⟨_, rfl⟩
  have hbox : BoxAt w0 w.heap.size x := by rw [hw0]; exact BoxAt.new w x
  have hb0 : Below w.heap.size w w0 := by rw [hw0]; exact (Below.refl _ _).alloc (Nat.le_refl _) _
  have hlt0 : w.heap.size < w0.heap.size := by rw [hw0]; simp
  have Hbox := Lib.hid hbox
  have HB0 := Lib.hid hb0
  have Hlt0 := Lib.hid hlt0
  have Hw0 : Hid (w.alloc (.cells #[.string x.name, .slice x.da x.data.length x.dc, .int .i64 x.done, .bool x.there] 68) = w0) := hw0.symm
  unfold rfVal
  clear h hx ho hll hbox hb0 hlt0 hw0
  go_enter Try.func32, Try.ntmps32
  go_wp2
  rw [Hw0.out]
  go_loopw [5, 6, 7] (fun v dn i wr => ∃ (k : Nat) (g : Bool), k ≤ l ∧ i = .int .i64 k ∧ dn = .bool g ∧ Hid ((putP x (fs.take k)).2 = g) ∧ Hid (wr.ownsRow w0.heap.size 68 4 v (putP x (fs.take k)).1.length (rfCells (putP x (fs.take k)).1)) ∧ Hid (Below w0.heap.size w0 wr)) (fun _ _ i _ => l - (intOf i).toNat)
  case atStart => exact ⟨0, false, Nat.zero_le _, rfl, rfl, rfl, World.ownsRow_nil _ _ _ _, Below.refl _ _⟩
  case round =>
    obtain ⟨k, g, hk, rfl, rfl, Hg, Hown, Hb⟩ := hrel
    by_cases hlt : k < l
    · obtain ⟨f, hf⟩ : ∃ f, fs[k]? = some f := ⟨_, List.getElem?_eq_getElem (by rw [Hl.out]; exact hlt)⟩
      have hbw : Below w.heap.size w wr := HB0.out.trans (Hb.out.mono (by have := Hlt0.out; omega))
      obtain ⟨A, rfl, _, hat⟩ := (H.out.below hbw) k f hf
      have hbox := Hbox.out.below Hb.out Hlt0.out
      have hstep := putP_take (x := x) hf
      have hlen := putP_len x fs k
      obtain ⟨P, hP⟩ : ∃ P, putP x (fs.take k) = P := ⟨_, rfl⟩
      rw [hP] at Hg Hown hstep hlen
      have hg2 : P.2 = g := Hg.out
      have hbl : Op.bytesLess f.name.toList x.name.toList = decide (f.nm < x.nm) := by rw [bytesLess_eq, toL_eq', toL_eq']; rfl
      have hlen2 : P.1.length ≤ 2000000 := by omega
      have c0 := hat.c0
      have c1 := hat.c1
      have c2 := hat.c2
      have c3 := hat.c3
      unfold fld at c1 c2 c3
      have b0 := hbox.b0
      have b1 := hbox.b1
      have b2 := hbox.b2
      have b3 := hbox.b3
      have hk1 : (k : Int) < (l : Int) := by omega
      have hk0 : (0 : Int) ≤ (k : Int) := by omega
      have Hf := Lib.hid hf
      clear hf hP hlen hat hbox
      by_cases hq2 : f.nm = x.nm
      · cases g with
        | true =>
          have hq1 : True := trivial
          have Hst : Hid (putP x (fs.take (k + 1)) = (P.1, true)) := by
            show _ = _
            rw [hstep, stepP_keep (Or.inl hg2), if_pos hq2]
            exact Prod.ext rfl hg2
          have hte : (f.name.toList == x.name.toList) = true := by rw [toL_eq', toL_eq']; exact beq_iff_eq.2 hq2
          clear hstep hbl hg2 hq1 hq2
          go_wp2_with fail
          go_quiet (fail)
          obtain ⟨w1, hw1⟩ : ∃ w1, w1 = wr.drewN nq := ⟨_, rfl⟩
          rw [← hw1]
          have HB1 := drew_belowH Hb hw1
          have HO1 := drew_owns Hown hw1
          clear c0 c1 c2 c3 b0 b1 b2 b3 hw1
          have hat1 := (H.out.below (HB0.out.trans (HB1.out.mono (Nat.le_of_lt Hlt0.out)))).at Hf.out
          have hbox1 := Hbox.out.below HB1.out Hlt0.out
          have c0 := hat1.c0
          have c1 := hat1.c1
          have c2 := hat1.c2
          have c3 := hat1.c3
          unfold fld at c1 c2 c3
          have b0 := hbox1.b0
          have b1 := hbox1.b1
          have b2 := hbox1.b2
          have b3 := hbox1.b3
          clear hat1 hbox1
          go_wp2_with fail
          go_quiet (fail)
          obtain ⟨w3, hw3⟩ : ∃ w3, w3 = w1.drewN nq := ⟨_, rfl⟩
          rw [← hw3]
          have HB3 := drew_belowH HB1 hw3
          have HO3 := drew_owns HO1 hw3
          clear c0 c1 c2 c3 b0 b1 b2 b3 hw3
          go_wp2_with fail
          go_roundw
          case rel => exact ⟨k + 1, true, by omega, by go_num, rfl, by rw [Hst.out]; rfl, by rw [Hst.out]; first | exact HO3 | (rw [List.length_append]; exact HO3), HB3⟩
          case measure => simp [intOf]; omega
        | false =>
          by_cases hq1 : f.nm < x.nm
          · have htl : Op.bytesLess f.name.toList x.name.toList = true := by rw [hbl]; simpa using hq1
            have Hst : Hid (putP x (fs.take (k + 1)) = (P.1, false)) := by
              show _ = _
              rw [hstep, stepP_keep (Or.inr hq1), if_pos hq2]
              exact Prod.ext rfl hg2
            have hte : (f.name.toList == x.name.toList) = true := by rw [toL_eq', toL_eq']; exact beq_iff_eq.2 hq2
            clear hstep hbl hg2 hq1 hq2
            go_wp2_with fail
            go_quiet (fail)
            obtain ⟨w1, hw1⟩ : ∃ w1, w1 = wr.drewN nq := ⟨_, rfl⟩
            rw [← hw1]
            have HB1 := drew_belowH Hb hw1
            have HO1 := drew_owns Hown hw1
            clear c0 c1 c2 c3 b0 b1 b2 b3 hw1
            have hat1 := (H.out.below (HB0.out.trans (HB1.out.mono (Nat.le_of_lt Hlt0.out)))).at Hf.out
            have hbox1 := Hbox.out.below HB1.out Hlt0.out
            have c0 := hat1.c0
            have c1 := hat1.c1
            have c2 := hat1.c2
            have c3 := hat1.c3
            unfold fld at c1 c2 c3
            have b0 := hbox1.b0
            have b1 := hbox1.b1
            have b2 := hbox1.b2
            have b3 := hbox1.b3
            clear hat1 hbox1
            go_wp2_with fail
            go_quiet (fail)
            obtain ⟨w3, hw3⟩ : ∃ w3, w3 = w1.drewN nq := ⟨_, rfl⟩
            rw [← hw3]
            have HB3 := drew_belowH HB1 hw3
            have HO3 := drew_owns HO1 hw3
            clear c0 c1 c2 c3 b0 b1 b2 b3 hw3
            go_wp2_with fail
            go_roundw
            case rel => exact ⟨k + 1, false, by omega, by go_num, rfl, by rw [Hst.out]; rfl, by rw [Hst.out]; first | exact HO3 | (rw [List.length_append]; exact HO3), HB3⟩
            case measure => simp [intOf]; omega
          · have htl : Op.bytesLess f.name.toList x.name.toList = false := by rw [hbl]; simpa using hq1
            have Hst : Hid (putP x (fs.take (k + 1)) = (P.1 ++ [x], true)) := by
              show _ = _
              rw [hstep, stepP_ins hg2 hq1, if_pos hq2]
            have hte : (f.name.toList == x.name.toList) = true := by rw [toL_eq', toL_eq']; exact beq_iff_eq.2 hq2
            clear hstep hbl hg2 hq1 hq2
            go_wp2_with fail
            go_quiet (fail)
            obtain ⟨w1, hw1⟩ : ∃ w1, w1 = wr.drewN nq := ⟨_, rfl⟩
            rw [← hw1]
            have HB1 := drew_belowH Hb hw1
            have HO1 := drew_owns Hown hw1
            clear c0 c1 c2 c3 b0 b1 b2 b3 hw1
            have hat1 := (H.out.below (HB0.out.trans (HB1.out.mono (Nat.le_of_lt Hlt0.out)))).at Hf.out
            have hbox1 := Hbox.out.below HB1.out Hlt0.out
            have c0 := hat1.c0
            have c1 := hat1.c1
            have c2 := hat1.c2
            have c3 := hat1.c3
            unfold fld at c1 c2 c3
            have b0 := hbox1.b0
            have b1 := hbox1.b1
            have b2 := hbox1.b2
            have b3 := hbox1.b3
            clear hat1 hbox1
            have HA1 := Lib.hid (HO1.out.alloc (rfObj x))
            have HBA1 := Lib.hid (HB1.out.alloc HB1.out.size (rfObj x))
            unfold rfObj at HA1 HBA1
            go_wp2_with (first
              | (at_builtin; refine wpList_append_own _ rfl (.tmp 26) (.tmp 28) 63 rfl w0.heap.size 68 i0 (.agg #[.string .empty, .slice none 0 0, .int .i64 0, .bool false]) 4 56 Try.underlying63 hi hz0 hz1 hz2 rfl (by decide) _ _ _ rfl HA1.out ⟨w1.heap.size, 0, none⟩ 1 1 x.cells rfl rfl (rf_new w1 x) (rf_oneCell x) (by unfold maxLen; omega) (by omega) HBA1.out.size ?_; intro v2 w2 hown2 hgrow2 hnil2))
            have HB2 := Lib.hid (HBA1.out.grown hgrow2 HBA1.out.size (fun q hq => (HA1.out.lt q hq).1))
            have HO2 : Hid (w2.ownsRow w0.heap.size 68 4 v2 (P.1.length + 1) (rfCells (P.1 ++ [x]))) := by rw [rfCells_append, rfCells_one]; exact hown2
            clear hown2 hgrow2 hnil2 c0 c1 c2 c3 b0 b1 b2 b3
            have hat2 := (H.out.below (HB0.out.trans (HB2.out.mono (Nat.le_of_lt Hlt0.out)))).at Hf.out
            have hbox2 := Hbox.out.below HB2.out Hlt0.out
            have c0 := hat2.c0
            have c1 := hat2.c1
            have c2 := hat2.c2
            have c3 := hat2.c3
            unfold fld at c1 c2 c3
            have b0 := hbox2.b0
            have b1 := hbox2.b1
            have b2 := hbox2.b2
            have b3 := hbox2.b3
            clear hat2 hbox2
            go_wp2_with fail
            go_quiet (fail)
            obtain ⟨w3, hw3⟩ : ∃ w3, w3 = w2.drewN nq := ⟨_, rfl⟩
            rw [← hw3]
            have HB3 := drew_belowH HB2 hw3
            have HO3 := drew_owns HO2 hw3
            clear c0 c1 c2 c3 b0 b1 b2 b3 hw3
            go_wp2_with fail
            go_roundw
            case rel => exact ⟨k + 1, true, by omega, by go_num, rfl, by rw [Hst.out]; rfl, by rw [Hst.out]; first | exact HO3 | (rw [List.length_append]; exact HO3), HB3⟩
            case measure => simp [intOf]; omega
      · cases g with
        | true =>
          have hq1 : True := trivial
          have Hst : Hid (putP x (fs.take (k + 1)) = (P.1 ++ [f], true)) := by
            show _ = _
            rw [hstep, stepP_keep (Or.inl hg2), if_neg hq2, hg2]
          have hte : (f.name.toList == x.name.toList) = false := by rw [toL_eq', toL_eq']; exact beq_eq_false_iff_ne.2 hq2
          clear hstep hbl hg2 hq1 hq2
          go_wp2_with fail
          go_quiet (fail)
          obtain ⟨w1, hw1⟩ : ∃ w1, w1 = wr.drewN nq := ⟨_, rfl⟩
          rw [← hw1]
          have HB1 := drew_belowH Hb hw1
          have HO1 := drew_owns Hown hw1
          clear c0 c1 c2 c3 b0 b1 b2 b3 hw1
          have hat1 := (H.out.below (HB0.out.trans (HB1.out.mono (Nat.le_of_lt Hlt0.out)))).at Hf.out
          have hbox1 := Hbox.out.below HB1.out Hlt0.out
          have c0 := hat1.c0
          have c1 := hat1.c1
          have c2 := hat1.c2
          have c3 := hat1.c3
          unfold fld at c1 c2 c3
          have b0 := hbox1.b0
          have b1 := hbox1.b1
          have b2 := hbox1.b2
          have b3 := hbox1.b3
          clear hat1 hbox1
          go_wp2_with fail
          go_quiet (fail)
          obtain ⟨w3, hw3⟩ : ∃ w3, w3 = w1.drewN nq := ⟨_, rfl⟩
          rw [← hw3]
          have HB3 := drew_belowH HB1 hw3
          have HO3 := drew_owns HO1 hw3
          clear c0 c1 c2 c3 b0 b1 b2 b3 hw3
          have hat3 := (H.out.below (HB0.out.trans (HB3.out.mono (Nat.le_of_lt Hlt0.out)))).at Hf.out
          have hbox3 := Hbox.out.below HB3.out Hlt0.out
          have c0 := hat3.c0
          have c1 := hat3.c1
          have c2 := hat3.c2
          have c3 := hat3.c3
          unfold fld at c1 c2 c3
          have b0 := hbox3.b0
          have b1 := hbox3.b1
          have b2 := hbox3.b2
          have b3 := hbox3.b3
          clear hat3 hbox3
          have HA3 := Lib.hid (HO3.out.alloc (rfObj f))
          have HBA3 := Lib.hid (HB3.out.alloc HB3.out.size (rfObj f))
          unfold rfObj at HA3 HBA3
          go_wp2_with (first
            | (at_builtin; refine wpList_append_own _ rfl (.tmp 38) (.tmp 43) 63 rfl w0.heap.size 68 i0 (.agg #[.string .empty, .slice none 0 0, .int .i64 0, .bool false]) 4 56 Try.underlying63 hi hz0 hz1 hz2 rfl (by decide) _ _ _ rfl HA3.out ⟨w3.heap.size, 0, none⟩ 1 1 f.cells rfl rfl (rf_new w3 f) (rf_oneCell f) (by unfold maxLen; omega) (by omega) HBA3.out.size ?_; intro v4 w4 hown4 hgrow4 hnil4))
          have HB4 := Lib.hid (HBA3.out.grown hgrow4 HBA3.out.size (fun q hq => (HA3.out.lt q hq).1))
          have HO4 : Hid (w4.ownsRow w0.heap.size 68 4 v4 (P.1.length + 1) (rfCells (P.1 ++ [f]))) := by rw [rfCells_append, rfCells_one]; exact hown4
          clear hown4 hgrow4 hnil4 c0 c1 c2 c3 b0 b1 b2 b3
          go_wp2_with fail
          go_roundw
          case rel => exact ⟨k + 1, true, by omega, by go_num, rfl, by rw [Hst.out]; rfl, by rw [Hst.out]; first | exact HO4 | (simp only [List.length_append]; exact HO4), HB4⟩
          case measure => simp [intOf]; omega
        | false =>
          by_cases hq1 : f.nm < x.nm
          · have htl : Op.bytesLess f.name.toList x.name.toList = true := by rw [hbl]; simpa using hq1
            have Hst : Hid (putP x (fs.take (k + 1)) = (P.1 ++ [f], false)) := by
              show _ = _
              rw [hstep, stepP_keep (Or.inr hq1), if_neg hq2, hg2]
            have hte : (f.name.toList == x.name.toList) = false := by rw [toL_eq', toL_eq']; exact beq_eq_false_iff_ne.2 hq2
            clear hstep hbl hg2 hq1 hq2
            go_wp2_with fail
            go_quiet (fail)
            obtain ⟨w1, hw1⟩ : ∃ w1, w1 = wr.drewN nq := ⟨_, rfl⟩
            rw [← hw1]
            have HB1 := drew_belowH Hb hw1
            have HO1 := drew_owns Hown hw1
            clear c0 c1 c2 c3 b0 b1 b2 b3 hw1
            have hat1 := (H.out.below (HB0.out.trans (HB1.out.mono (Nat.le_of_lt Hlt0.out)))).at Hf.out
            have hbox1 := Hbox.out.below HB1.out Hlt0.out
            have c0 := hat1.c0
            have c1 := hat1.c1
            have c2 := hat1.c2
            have c3 := hat1.c3
            unfold fld at c1 c2 c3
            have b0 := hbox1.b0
            have b1 := hbox1.b1
            have b2 := hbox1.b2
            have b3 := hbox1.b3
            clear hat1 hbox1
            go_wp2_with fail
            go_quiet (fail)
            obtain ⟨w3, hw3⟩ : ∃ w3, w3 = w1.drewN nq := ⟨_, rfl⟩
            rw [← hw3]
            have HB3 := drew_belowH HB1 hw3
            have HO3 := drew_owns HO1 hw3
            clear c0 c1 c2 c3 b0 b1 b2 b3 hw3
            have hat3 := (H.out.below (HB0.out.trans (HB3.out.mono (Nat.le_of_lt Hlt0.out)))).at Hf.out
            have hbox3 := Hbox.out.below HB3.out Hlt0.out
            have c0 := hat3.c0
            have c1 := hat3.c1
            have c2 := hat3.c2
            have c3 := hat3.c3
            unfold fld at c1 c2 c3
            have b0 := hbox3.b0
            have b1 := hbox3.b1
            have b2 := hbox3.b2
            have b3 := hbox3.b3
            clear hat3 hbox3
            have HA3 := Lib.hid (HO3.out.alloc (rfObj f))
            have HBA3 := Lib.hid (HB3.out.alloc HB3.out.size (rfObj f))
            unfold rfObj at HA3 HBA3
            go_wp2_with (first
              | (at_builtin; refine wpList_append_own _ rfl (.tmp 38) (.tmp 43) 63 rfl w0.heap.size 68 i0 (.agg #[.string .empty, .slice none 0 0, .int .i64 0, .bool false]) 4 56 Try.underlying63 hi hz0 hz1 hz2 rfl (by decide) _ _ _ rfl HA3.out ⟨w3.heap.size, 0, none⟩ 1 1 f.cells rfl rfl (rf_new w3 f) (rf_oneCell f) (by unfold maxLen; omega) (by omega) HBA3.out.size ?_; intro v4 w4 hown4 hgrow4 hnil4))
            have HB4 := Lib.hid (HBA3.out.grown hgrow4 HBA3.out.size (fun q hq => (HA3.out.lt q hq).1))
            have HO4 : Hid (w4.ownsRow w0.heap.size 68 4 v4 (P.1.length + 1) (rfCells (P.1 ++ [f]))) := by rw [rfCells_append, rfCells_one]; exact hown4
            clear hown4 hgrow4 hnil4 c0 c1 c2 c3 b0 b1 b2 b3
            go_wp2_with fail
            go_roundw
            case rel => exact ⟨k + 1, false, by omega, by go_num, rfl, by rw [Hst.out]; rfl, by rw [Hst.out]; first | exact HO4 | (simp only [List.length_append]; exact HO4), HB4⟩
            case measure => simp [intOf]; omega
          · have htl : Op.bytesLess f.name.toList x.name.toList = false := by rw [hbl]; simpa using hq1
            have Hst : Hid (putP x (fs.take (k + 1)) = (P.1 ++ [x] ++ [f], true)) := by
              show _ = _
              rw [hstep, stepP_ins hg2 hq1, if_neg hq2]
            have hte : (f.name.toList == x.name.toList) = false := by rw [toL_eq', toL_eq']; exact beq_eq_false_iff_ne.2 hq2
            clear hstep hbl hg2 hq1 hq2
            go_wp2_with fail
            go_quiet (fail)
            obtain ⟨w1, hw1⟩ : ∃ w1, w1 = wr.drewN nq := ⟨_, rfl⟩
            rw [← hw1]
            have HB1 := drew_belowH Hb hw1
            have HO1 := drew_owns Hown hw1
            clear c0 c1 c2 c3 b0 b1 b2 b3 hw1
            have hat1 := (H.out.below (HB0.out.trans (HB1.out.mono (Nat.le_of_lt Hlt0.out)))).at Hf.out
            have hbox1 := Hbox.out.below HB1.out Hlt0.out
            have c0 := hat1.c0
            have c1 := hat1.c1
            have c2 := hat1.c2
            have c3 := hat1.c3
            unfold fld at c1 c2 c3
            have b0 := hbox1.b0
            have b1 := hbox1.b1
            have b2 := hbox1.b2
            have b3 := hbox1.b3
            clear hat1 hbox1
            have HA1 := Lib.hid (HO1.out.alloc (rfObj x))
            have HBA1 := Lib.hid (HB1.out.alloc HB1.out.size (rfObj x))
            unfold rfObj at HA1 HBA1
            go_wp2_with (first
              | (at_builtin; refine wpList_append_own _ rfl (.tmp 26) (.tmp 28) 63 rfl w0.heap.size 68 i0 (.agg #[.string .empty, .slice none 0 0, .int .i64 0, .bool false]) 4 56 Try.underlying63 hi hz0 hz1 hz2 rfl (by decide) _ _ _ rfl HA1.out ⟨w1.heap.size, 0, none⟩ 1 1 x.cells rfl rfl (rf_new w1 x) (rf_oneCell x) (by unfold maxLen; omega) (by omega) HBA1.out.size ?_; intro v2 w2 hown2 hgrow2 hnil2))
            have HB2 := Lib.hid (HBA1.out.grown hgrow2 HBA1.out.size (fun q hq => (HA1.out.lt q hq).1))
            have HO2 : Hid (w2.ownsRow w0.heap.size 68 4 v2 (P.1.length + 1) (rfCells (P.1 ++ [x]))) := by rw [rfCells_append, rfCells_one]; exact hown2
            clear hown2 hgrow2 hnil2 c0 c1 c2 c3 b0 b1 b2 b3
            have hat2 := (H.out.below (HB0.out.trans (HB2.out.mono (Nat.le_of_lt Hlt0.out)))).at Hf.out
            have hbox2 := Hbox.out.below HB2.out Hlt0.out
            have c0 := hat2.c0
            have c1 := hat2.c1
            have c2 := hat2.c2
            have c3 := hat2.c3
            unfold fld at c1 c2 c3
            have b0 := hbox2.b0
            have b1 := hbox2.b1
            have b2 := hbox2.b2
            have b3 := hbox2.b3
            clear hat2 hbox2
            go_wp2_with fail
            go_quiet (fail)
            obtain ⟨w3, hw3⟩ : ∃ w3, w3 = w2.drewN nq := ⟨_, rfl⟩
            rw [← hw3]
            have HB3 := drew_belowH HB2 hw3
            have HO3 := drew_owns HO2 hw3
            clear c0 c1 c2 c3 b0 b1 b2 b3 hw3
            have hat3 := (H.out.below (HB0.out.trans (HB3.out.mono (Nat.le_of_lt Hlt0.out)))).at Hf.out
            have hbox3 := Hbox.out.below HB3.out Hlt0.out
            have c0 := hat3.c0
            have c1 := hat3.c1
            have c2 := hat3.c2
            have c3 := hat3.c3
            unfold fld at c1 c2 c3
            have b0 := hbox3.b0
            have b1 := hbox3.b1
            have b2 := hbox3.b2
            have b3 := hbox3.b3
            clear hat3 hbox3
            have HA3 := Lib.hid (HO3.out.alloc (rfObj f))
            have HBA3 := Lib.hid (HB3.out.alloc HB3.out.size (rfObj f))
            unfold rfObj at HA3 HBA3
            go_wp2_with (first
              | (at_builtin; refine wpList_append_own _ rfl (.tmp 38) (.tmp 43) 63 rfl w0.heap.size 68 i0 (.agg #[.string .empty, .slice none 0 0, .int .i64 0, .bool false]) 4 56 Try.underlying63 hi hz0 hz1 hz2 rfl (by decide) _ _ _ rfl HA3.out ⟨w3.heap.size, 0, none⟩ 1 1 f.cells rfl rfl (rf_new w3 f) (rf_oneCell f) (by unfold maxLen; omega) (by omega) HBA3.out.size ?_; intro v4 w4 hown4 hgrow4 hnil4))
            have HB4 := Lib.hid (HBA3.out.grown hgrow4 HBA3.out.size (fun q hq => (HA3.out.lt q hq).1))
            have HO4 : Hid (w4.ownsRow w0.heap.size 68 4 v4 (P.1.length + 1 + 1) (rfCells (P.1 ++ [x] ++ [f]))) := by rw [rfCells_append, rfCells_one]; exact hown4
            clear hown4 hgrow4 hnil4 c0 c1 c2 c3 b0 b1 b2 b3
            go_wp2_with fail
            go_roundw
            case rel => exact ⟨k + 1, true, by omega, by go_num, rfl, by rw [Hst.out]; rfl, by rw [Hst.out]; first | exact HO4 | (simp only [List.length_append]; exact HO4), HB4⟩
            case measure => simp [intOf]; omega
    · have hfin : fs.take k = fs := by rw [show k = l by omega, ← Hl.out]; exact List.take_length
      rw [hfin] at Hg Hown
      have hlen := putP_len x fs l
      rw [show fs.take l = fs by rw [← Hl.out]; exact List.take_length] at hlen
      have hgood : ∀ f ∈ fs, FGood w0 own f := (H.out.below HB0.out).good
      have hxg : FGood w0 own x := Hx.out.below HB0.out
      have Hgood := Lib.hid hgood
      have Hxg := Lib.hid hxg
      clear hgood hxg hfin
      cases g with
      | true =>
        have hput : putL fs x = (putP x fs).1 := by unfold putL; rw [if_pos Hg.out]
        have h1 := Hown.out
        rw [← hput] at h1
        obtain ⟨a1, c1, hv, hrow, _⟩ := FRow.of_owns (own := own) h1 (fun b hb => Ho.out b (by have := Hlt0.out; omega)) (fun f hf => ((putL_mem f hf).elim (fun e => e ▸ Hxg.out) (fun e => Hgood.out f e)).below Hb.out)
        subst hv
        have Hrow := Lib.hid hrow
        clear h1 hrow hput
        go_wp2
        go_ret
        exact ⟨a1, c1, rfl, Hrow.out, HB0.out.trans (Hb.out.mono (Nat.le_of_lt Hlt0.out))⟩
      | false =>
        have Hput : Hid (putL fs x = (putP x fs).1 ++ [x]) := by show _ = _; unfold putL; rw [if_neg (by rw [Hg.out]; simp)]
        obtain ⟨P, hP⟩ : ∃ P, (putP x fs).1 = P := ⟨_, rfl⟩
        rw [hP] at Hput Hown hlen
        clear hP Hg
        have hbox := Hbox.out.below Hb.out Hlt0.out
        have b0 := hbox.b0
        have b1 := hbox.b1
        have b2 := hbox.b2
        have b3 := hbox.b3
        have HA1 := Lib.hid (Hown.out.alloc (rfObj x))
        have HBA1 := Lib.hid (Hb.out.alloc Hb.out.size (rfObj x))
        unfold rfObj at HA1 HBA1
        clear hbox
        go_wp2_with (first
          | (at_builtin; refine wpList_append_own _ rfl (.tmp 47) (.tmp 49) 63 rfl w0.heap.size 68 i0 (.agg #[.string .empty, .slice none 0 0, .int .i64 0, .bool false]) 4 56 Try.underlying63 hi hz0 hz1 hz2 rfl (by decide) _ _ _ rfl HA1.out ⟨wr.heap.size, 0, none⟩ 1 1 x.cells rfl rfl (rf_new wr x) (rf_oneCell x) (by unfold maxLen; omega) (by omega) HBA1.out.size ?_; intro v2 w2 hown2 hgrow2 hnil2))
        have HB2 := Lib.hid (HBA1.out.grown hgrow2 HBA1.out.size (fun q hq => (HA1.out.lt q hq).1))
        have h1 : w2.ownsRow w0.heap.size 68 4 v2 (putL fs x).length (rfCells (putL fs x)) := by rw [Hput.out, List.length_append, rfCells_append, rfCells_one]; exact hown2
        obtain ⟨a1, c1, hv, hrow, _⟩ := FRow.of_owns (own := own) h1 (fun b hb => Ho.out b (by have := Hlt0.out; omega)) (fun f hf => ((putL_mem f hf).elim (fun e => e ▸ Hxg.out) (fun e => Hgood.out f e)).below HB2.out)
        subst hv
        have Hrow := Lib.hid hrow
        clear h1 hrow hown2 hgrow2 hnil2 b0 b1 b2 b3
        go_wp2_with fail
        go_ret
        exact ⟨a1, c1, rfl, Hrow.out, HB0.out.trans (HB2.out.mono (Nat.le_of_lt Hlt0.out))⟩

end Go.Proofs.Yteonkojfnmbpoaa
