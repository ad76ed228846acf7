/- Names of a device: a new row with the names of all files, rising. | The statement DeviceFuse, its walk. | DeviceGrows holds: for every name, list of parts and list of what is kept the call returns true, and each argument reads behind it as it did. | DeviceFuse holds: for every number and list of calls handed in the call returns true, and each argument reads behind it as it did. | GreatLogs and does. | Of. | A list of files that came in; what Of's device holds. | The statement DeviceRemoved, its walk. | The statement DeviceRemoved, its walk: the calls. | DeviceRemoved holds: for every list of files, place, bytes, flag and list of what is kept the call returns true, and each argument reads behind it as it did. | What a device's calls leave, in plain words: how many acts; whose names are told; crashes behind crashes. -/
import Derived.Test.YtdpbnacabinlgaaGreatDoorM3
import Derived.ProofKit
import Derived.OpenShut
import Derived.ShutString
import Derived.ChangeOld
import Derived.Deep.SlicePairs
import Derived.Deep.Strs
import Derived.Laws.IdiomStrings
import Derived.Sort.KeysCollected
namespace Go.Proofs.YtdpbnacabinlgaaGreatDoor
open Go.RowKit Go.Lib Go.Maps Go.Sort

/-- What Names leaves. -/
def NamesPost (w : World) (D : DataW Unit) (e : Ending) (w' : World) : Prop := ∃ (v : Value) (ss : List (List UInt8)), e = .returned v ∧ ss.Perm (strKeys D) ∧
  w'.ownsRow w.heap.size 9 1 v ss.length ((ss.mergeSort (fun x y => decide (x ≤ y))).map encStr) ∧ Below w.heap.size w w'

section
variable {S : Prop} {w w' : World} {own own' : Owner} {db fb rb : Nat} {D E : DataW Unit} {n : Nat} {m : DevM}

set_option maxHeartbeats 1000000 in
set_option maxRecDepth 100000 in
theorem Dev.names (h : Dev S w own db fb rb D E n m) (hn : n ≤ 1000000000000) : Calls Tryz.prog 30 #[.pointer (some ⟨db, 0, none⟩)] w (NamesPost w D) := by
  have c1 := h.c1
  obtain ⟨c, hc⟩ := h.fmap
  have hsz : Maps.size D ≤ 1000000000000 := by have := h.cnt; omega
  have Hc := Lib.hid hc
  have Hsz := Lib.hid hsz
  clear h hc hsz
  go_enter Tryz.func30, Tryz.ntmps30
  go_wp2_with fail
  refine (callsIn_wide.1 (Tryz.maps_Keys_70 _ _)).mono ?_
  rintro e w1 ⟨rfl, rfl⟩
  go_wp2_with fail
  refine (callsIn_wide.1 (Tryz.slices_Sorted_keys_69_70 fb c D ptrR w Hc.out (by have := Hsz.out; unfold maxLen; omega) (by have := Hsz.out; omega))).mono ?_
  rintro e w2 ⟨v, ss, rfl, hS, hrow, hnil, hb⟩
  have HS := Lib.hid hS
  have Hrow := Lib.hid hrow
  have Hb := Lib.hid hb
  clear hS hrow hnil hb
  go_wp2_with fail
  go_ret
  exact ⟨v, ss, rfl, HS.out, ownsRow_base Hrow.out (by simp), ((Below.refl _ w).alloc (Nat.le_refl _) _).trans (Hb.out.mono (by simp))⟩

/-- How many names there are. -/
theorem Dev.names_len (h : Dev S w own db fb rb D E n m) {ss : List (List UInt8)} (hp : ss.Perm (strKeys D)) : ss.length = Maps.size D := by
  obtain ⟨c, hc⟩ := h.fmap
  obtain ⟨es, rfl, _, _⟩ := hc.entries lawS
  rw [hp.length_eq]
  simp [strKeys, Maps.size]

theorem row_slice {base : Nat} {t : TypeId} {sz : Nat} {v : Value} {k : Nat} {xs : List Value} (h : w.ownsRow base t sz v k xs) : ∃ a c, v = .slice a k c := by
  rcases h.2 with ⟨rfl, h0⟩ | ⟨g, cap, cur, rfl, _⟩
  · exact ⟨none, 0, by rw [h0]⟩
  · exact ⟨_, _, rfl⟩

end
end Go.Proofs.YtdpbnacabinlgaaGreatDoor
namespace Go.Proofs.YtdpbnacabinlgaaGreatDoor
open Go.RowKit Go.Lib Go.Maps Go.ChangeMaps

/-- The device with a fuse of F, behind k Syncs. -/
def fuM (F k : Nat) : DevM := { room := 4194304, acts := (min k F : Nat), fuse := ((F - k : Nat) : Int), down := decide (F < k), files := fun _ => none, gone := fun _ => none }

theorem sync_fu (F k : Nat) : syncM (fuM F k) = (fuM F (k + 1), if k < F then 0 else 13) := by
  by_cases h : k < F
  · have e1 : ¬ F < k := by omega
    have e2 : (((F - k : Nat) : Int) == 0) = false := by simp; omega
    have e3 : min k F = k := by omega
    have e4 : min (k + 1) F = k + 1 := by omega
    have e5 : ¬ F < k + 1 := by omega
    have e6 : (0 : Int) < ((F - k : Nat) : Int) := by omega
    have e7 : ((F - k : Nat) : Int) - 1 = ((F - (k + 1) : Nat) : Int) := by omega
    simp only [syncM, fuM, settleM, fuseLess, e1, e2, e3, e4, e5, if_pos h, if_pos e6, e7, decide_false, Bool.or_self, Bool.false_eq_true, if_false, Option.map_none]
    rfl
  · have e2 : (((F - k : Nat) : Int) == 0) = true := by simp; omega
    have e3 : min k F = F := by omega
    have e4 : min (k + 1) F = F := by omega
    have e5 : F < k + 1 := by omega
    have e6 : F - k = F - (k + 1) := by omega
    rw [e6] at e2
    simp only [syncM, fuM, e2, Bool.or_true, if_true, if_neg h, e3, e4, e5, decide_true, e6]

section
variable {S : Prop} {w w' : World} {own own' : Owner} {db fb rb : Nat} {D D' E E' : DataW Unit} {n n' : Nat} {m : DevM}

theorem Dev.fused (h : Dev S w own db fb rb D E n m) {x : Int} (hx : -9223372036854775808 ≤ x ∧ x ≤ 9223372036854775807) :
    Dev S (w.setCell ⟨db, 4, none⟩ (.int .i64 x)) own db fb rb D E n { m with fuse := x } ∧ Step own own w (w.setCell ⟨db, 4, none⟩ (.int .i64 x)) :=
  ⟨h.setBlk (by simp [World.setCell]) (fun b _ hb => Below.heap_setCell _ _ _ _ hb) (by rw [setCell_blk h.blk]; rfl) h.racts hx,
   Step.of_fr ((Fr.refl _ _).setCell _ _ (fun _ => by simp [h.odb]))⟩

end

end Go.Proofs.YtdpbnacabinlgaaGreatDoor
namespace Go.Proofs.YtdpbnacabinlgaaGreatDoor
open Go.ChangeShapes Go.WideShapes Go.ChangeAt Go.RowKit Go.Lib Go.Deep
open Go.ChangeMaps (open_string shut_string)

theorem own_ : ownKnob Tryz.prog.godebug = none := by kernel_rfl
theorem laidOut : laidOutB Tryz.prog = true := by kernel_rfl
theorem cellsStr : Tryz.prog.cellsOf 9 = 1 := by kernel_rfl

section
variable {H : Type} {enc : TypeId × Value → H} {w : World} {base : Nat} {spare : Nat → Bool} {held : Bool}

/-- A list of texts that came in. -/
theorem open_parts {fuel : Nat} {a : Option Addr} {len cap : Nat} {x : DataW H × List MemPlace} (h : DataW.trod enc Tryz.prog w base spare held fuel 32 [.slice a len cap] = some x) :
    ∃ ps : List ByteArray, len = ps.length ∧ SRow w a ps ∧ ps.length ≤ maxLen := by
  rcases open_strs Tryz.underlying32 Tryz.underlying9 cellsStr h with ⟨hcs, _⟩ | ⟨A, l, c, m, Sx, hcs, _, hl, hm, hmm, _, hx⟩
  · simp at hcs
    obtain ⟨rfl, rfl, rfl⟩ := hcs
    exact ⟨[], rfl, fun j s hj => by simp at hj, Nat.zero_le _⟩
  · simp at hcs
    obtain ⟨rfl, rfl, rfl⟩ := hcs
    have hlm : len ≤ m := by rw [hmm]; split <;> omega
    refine ⟨(List.range len).map Sx, by simp, fun j s hj => ?_, by simp; omega⟩
    obtain ⟨hjl, rfl⟩ := List.getElem?_eq_some_iff.1 hj
    simp at hjl ⊢
    obtain ⟨h1, h2⟩ := hx j (by omega)
    have h3 := World.block_lt_of_cell? _ _ h1
    rw [add_block] at h3
    exact ⟨h3, h1, h2⟩

/-- A list of names and numbers that came in. -/
theorem open_kepts {fuel : Nat} {a : Option Addr} {len cap : Nat} {x : DataW H × List MemPlace} (h : DataW.trod enc Tryz.prog w base spare held fuel 41 [.slice a len cap] = some x) :
    ∃ ks : List (ByteArray × Int), len = ks.length ∧ ks.length ≤ maxLen ∧ ∀ (w1 : World), Below w.heap.size w w1 → ∀ own : Owner, (∀ b, b < w.heap.size → own b = none) → KArg w1 own (.slice a len cap) ks := by
  rcases open_slice_pairs Tryz.underlying41 Tryz.underlying67 (by kernel_rfl) rfl rfl (by kernel_rfl) (by kernel_rfl) h with ⟨hcs, _⟩ | ⟨A, l, c, m, n, V0, V1, D0, D1, P0, P1, hcs, _, hl, hm, hmm, _, hx⟩
  · simp at hcs
    obtain ⟨rfl, rfl, rfl⟩ := hcs
    exact ⟨[], rfl, Nat.zero_le _, fun _ _ _ _ => Or.inl ⟨rfl, rfl⟩⟩
  · simp at hcs
    obtain ⟨rfl, rfl, rfl⟩ := hcs
    have hlm : len ≤ m := by rw [hmm]; split <;> omega
    have hall : ∀ i, i < len → ∃ q : ByteArray × Int, w.cell? (A.add (i * 2)) = some (.string q.1) ∧ w.cell? (A.add (i * 2 + 1)) = some (.int .i64 q.2) ∧ q.1.size ≤ maxLen ∧ (Lit.int .i64 q.2).wf = true := fun i hi => by
      obtain ⟨e0, e1, t0, t1⟩ := hx i (by omega)
      obtain ⟨s, h1, _, h3⟩ := DataW.trod_string Tryz.underlying9 t0
      obtain ⟨v, h4, _, h6⟩ := DataW.trod_int Tryz.underlying3 t1
      simp at h1 h4
      exact ⟨(s, v), by rw [e0, h1], by rw [e1, h4], h3, h6⟩
    obtain ⟨q, hq⟩ := choose_lt hall
    refine ⟨(List.range len).map q, by simp, by simp; omega, fun w1 hb own ho => ?_⟩
    refine Or.inr ⟨A, cap, by simp, fun hne => ?_, fun j s v hj => ?_⟩
    · have hl0 : 0 < len := by
        rcases Nat.eq_zero_or_pos len with e | e
        · subst e; simp at hne
        · exact e
      have h3 := World.block_lt_of_cell? _ _ (hq 0 hl0).1
      rw [add_block] at h3
      exact ho _ h3
    · obtain ⟨hjl, he⟩ := List.getElem?_eq_some_iff.1 hj
      simp at hjl he
      obtain ⟨h1, h2, h3, h4⟩ := hq j hjl
      rw [he] at h1 h2 h3 h4
      exact ⟨(hb.cell (World.block_lt_of_cell? _ _ h1)).trans h1, (hb.cell (World.block_lt_of_cell? _ _ h2)).trans h2, h3, h4⟩

end

namespace deviceGrows
end deviceGrows
end Go.Proofs.YtdpbnacabinlgaaGreatDoor
namespace Go.Proofs.YtdpbnacabinlgaaGreatDoor
open Go.ChangeShapes Go.WideShapes Go.ChangeAt Go.RowKit Go.Lib Go.Deep
open Go.ChangeMaps (open_string shut_string)

section
variable {H : Type} {enc : TypeId × Value → H} {w : World} {base : Nat} {spare : Nat → Bool} {held : Bool}

/-- Bytes that came in. -/
theorem open_bytes {fuel : Nat} {a : Option Addr} {len cap : Nat} {x : DataW H × List MemPlace} (h : DataW.trod enc Tryz.prog w base spare held fuel 49 [.slice a len cap] = some x) :
    ∃ bs : List UInt8, len = bs.length ∧ bs.length ≤ maxLen ∧ ∀ (w1 : World), Below w.heap.size w w1 → ∀ own : Owner, (∀ b, b < w.heap.size → own b = none) → BArg w1 own (.slice a len cap) bs := by
  rcases open_slice1 Tryz.underlying49 (by kernel_rfl) h with ⟨hcs, _⟩ | ⟨A, l, c, m, n, V, D, Pl, hcs, _, hl, hm, hmm, _, hx⟩
  · simp at hcs
    obtain ⟨rfl, rfl, rfl⟩ := hcs
    exact ⟨[], rfl, Nat.zero_le _, fun _ _ _ _ => Or.inl ⟨rfl, rfl⟩⟩
  · simp at hcs
    obtain ⟨rfl, rfl, rfl⟩ := hcs
    have hlm : len ≤ m := by rw [hmm]; split <;> omega
    have hall : ∀ i, i < len → ∃ q : UInt8, w.cell? (A.add i) = some (.int .u8 q.toNat) := fun i hi => by
      obtain ⟨e0, t0⟩ := hx i (by omega)
      obtain ⟨v, h4, _, h6⟩ := DataW.trod_int Tryz.underlying5 t0
      simp at h4
      have h7 : (0 : Int) ≤ v ∧ v ≤ 255 := by
        have h8 : (decide ((0 : Int) ≤ v) && decide (v ≤ 255)) = true := h6
        simpa using h8
      refine ⟨UInt8.ofNat v.toNat, ?_⟩
      rw [e0, h4]
      congr 2
      simp
      omega
    obtain ⟨q, hq⟩ := choose_lt hall
    refine ⟨(List.range len).map q, by simp, by simp; omega, fun w1 hb own ho => ?_⟩
    refine Or.inr ⟨A, cap, by simp, fun hne => ?_, fun j y hj => ?_⟩
    · have hl0 : 0 < len := by
        rcases Nat.eq_zero_or_pos len with e | e
        · subst e; simp at hne
        · exact e
      have h3 := World.block_lt_of_cell? _ _ (hq 0 hl0)
      rw [add_block] at h3
      exact ho _ h3
    · obtain ⟨hjl, rfl⟩ := List.getElem?_eq_some_iff.1 hj
      simp at hjl ⊢
      exact (hb.cell (World.block_lt_of_cell? _ _ (hq j hjl))).trans (hq j hjl)

instance : Inhabited OpV := ⟨⟨0, .empty, none, 0, [], 0, none, 0, []⟩⟩

end

namespace deviceFuse
end deviceFuse
end Go.Proofs.YtdpbnacabinlgaaGreatDoor
namespace Go.Proofs.YtdpbnacabinlgaaGreatDoor
open Go.RowKit Go.Lib Go.Maps Go.ChangeMaps

/-- A file, as it was handed in. -/
structure LogV where
  name : ByteArray
  da : Option Addr
  dc : Nat
  ds : List UInt8

instance : Inhabited LogV := ⟨⟨.empty, none, 0, []⟩⟩

structure LAt (w : World) (A : Addr) (j : Nat) (o : LogV) : Prop where
  c0 : w.cell? (A.add (j * 2)) = some (.string o.name)
  c1 : w.cell? (fld A 2 j 1) = some (.slice o.da o.ds.length o.dc)
  hname : o.name.size ≤ maxLen
  hdl : o.ds.length ≤ maxLen
  hb : BArg w (fun _ => none) (.slice o.da o.ds.length o.dc) o.ds

def LRow (w : World) (a : Option Addr) (ls : List LogV) : Prop := ∀ j o, ls[j]? = some o → ∃ A, a = some A ∧ LAt w A j o

theorem LAt.below {w w' : World} {A : Addr} {j : Nat} {o : LogV} (h : LAt w A j o) (hb : Below w.heap.size w w') : LAt w' A j o where
  c0 := (hb.cell (World.block_lt_of_cell? _ _ h.c0)).trans h.c0
  c1 := (hb.cell (World.block_lt_of_cell? _ _ h.c1)).trans h.c1
  hname := h.hname
  hdl := h.hdl
  hb := h.hb.step (below_step _ hb)

theorem LRow.below {w w' : World} {a : Option Addr} {ls : List LogV} (h : LRow w a ls) (hb : Below w.heap.size w w') : LRow w' a ls := fun j o hj => by
  obtain ⟨A, h1, h2⟩ := h j o hj
  exact ⟨A, h1, h2.below hb⟩

/-- What GreatLogs leaves. -/
def GLPost (w : World) (e : Ending) (w' : World) : Prop := ∃ g, e = .returned (.bool g) ∧ Below w.heap.size w w'

set_option maxHeartbeats 2000000 in
set_option maxRecDepth 100000 in
theorem greatLogs_calls (a : Option Addr) (c : Nat) (ls : List LogV) (w : World) (hls : LRow w a ls) (hl : ls.length ≤ maxLen) :
    Calls Tryz.prog 12 #[.slice a ls.length c] w (GLPost w) := by
  have Hls := Lib.hid hls
  obtain ⟨l, hll⟩ : ∃ l, ls.length = l := ⟨_, rfl⟩
  rw [hll] at hl ⊢
  have Hl := Lib.hid hll
  unfold maxLen at hl
  clear hls hll
  go_enter Tryz.func12, Tryz.ntmps12
  go_wp2_with fail
  go_loopw [3, 4] (fun n i wr => ∃ (k : Nat) (x : Int), k ≤ l ∧ i = .int .i64 k ∧ n = .int .i64 x ∧ 0 ≤ x ∧ x ≤ 9223372036854775807 ∧ Hid (Below w.heap.size w wr)) (fun _ i _ => l - (intOf i).toNat)
  case atStart => exact ⟨0, l, Nat.zero_le _, rfl, rfl, by omega, by omega, Below.refl _ _⟩
  case round =>
    obtain ⟨k, x, hk, rfl, rfl, hx0, hx1, Hb⟩ := hrel
    by_cases hgo : k < l ∧ x < 100000
    · obtain ⟨hlt, hx⟩ := hgo
      obtain ⟨o, ho⟩ : ∃ o, ls[k]? = some o := ⟨_, List.getElem?_eq_getElem (by rw [Hl.out]; exact hlt)⟩
      obtain ⟨name, da, dc, ds⟩ := o
      obtain ⟨A, rfl, hat0⟩ := Hls.out k _ ho
      have hat := hat0.below Hb.out
      have c1 := hat.c0
      have c2 := hat.c1
      dsimp only at c1 c2
      have hd : decide (x < 100000) = true := by simpa using hx
      have Hat := Lib.hid hat
      unfold fld at c2
      clear ho hat0 hat
      have hk0 : (0 : Int) ≤ (k : Int) := by omega
      have hk1 : (k : Int) < (l : Int) := by omega
      go_wp2_with fail
      go_quiet (fail)
      have Hb1 : Hid (Below w.heap.size w (wr.drewN nq)) := below_drewN Hb.out _
      clear c1 c2
      go_wp2_with fail
      go_roundw
      case rel => exact ⟨k + 1, _, by omega, by go_num, rfl, by omega, by omega, Hb1⟩
      case measure => simp [intOf]; omega
    · by_cases hbig : 100000 ≤ x
      · have hd2 : decide (x < 100000) = false := by simp; omega
        have hd3 : decide ((100000 : Int) ≤ x) = true := by simpa using hbig
        by_cases hlt : k < l
        all_goals
          go_wp2
          go_ret
          exact ⟨true, rfl, Hb.out⟩
      · have hd3 : decide ((100000 : Int) ≤ x) = false := by simp; omega
        go_wp2
        go_ret
        exact ⟨false, rfl, Hb.out⟩

/-- What a call of 'does' answers, and what the device is then. -/
def doesM (m : DevM) (sz used : Nat) (o : OpV) : DevM × Int :=
  if o.what = 0 ∨ o.what = 1 ∨ o.what = 2 then appendM m sz used o.name.data.toList o.bs
  else if o.what = 3 then removeM m o.name.data.toList
  else if o.what = 4 then syncM m
  else (m, 0)

def opVal (o : OpV) : Value := .agg #[.int .i64 o.what, .string o.name, .slice o.ba o.bs.length o.bc, .int .i64 o.n, .slice o.ka o.ks.length o.kc]

/-- What 'does' leaves. -/
def DoesPost (S : Prop) (w : World) (own : Owner) (db fb rb : Nat) (n : Nat) (m' : DevM) (c : Int) (e : Ending) (w' : World) : Prop :=
  e = .returned (.int .i64 c) ∧ ∃ own' D' E', Dev S w' own' db fb rb D' E' (n + 1) m' ∧ Step own own' w w'

section
variable {S : Prop} {w w' : World} {own own' : Owner} {db fb rb : Nat} {D D' E E' : DataW Unit} {n n' : Nat} {m : DevM}

end
end Go.Proofs.YtdpbnacabinlgaaGreatDoor
namespace Go.Proofs.YtdpbnacabinlgaaGreatDoor
open Go.RowKit Go.Lib Go.Maps Go.ChangeMaps

/-- The files of the first k of a list. -/
def ofF (ls : List LogV) (k : Nat) : List UInt8 → Option FileM := fun key => ((ls.take k).find? fun o => o.name.data.toList == key).map fun o => ⟨o.ds, 0, true⟩
def ofMk (room : Int) (ls : List LogV) (k : Nat) : DevM := { room := room, acts := 0, fuse := -1, down := false, files := ofF ls k, gone := fun _ => none }
/-- Is it right, what stands at place k? -/
def OfAt (ls : List LogV) (k : Nat) (o : LogV) : Prop := nameOk o.name.data.toList = true ∧ ofF ls k o.name.data.toList = none ∧ o.ds.length ≤ 262144
def OfOk (ls : List LogV) : Prop := ls.length ≤ 64 ∧ ∀ k o, ls[k]? = some o → OfAt ls k o
def ofM (room : Int) (ls : List LogV) : DevM := settleM (ofMk room ls ls.length)

theorem ofF_zero (ls : List LogV) : ofF ls 0 = fun _ => none := rfl
theorem ofF_succ {ls : List LogV} {k : Nat} {o : LogV} (h : ls[k]? = some o) (hn : ofF ls k o.name.data.toList = none) :
    ofF ls (k + 1) = setF (ofF ls k) o.name.data.toList (some ⟨o.ds, 0, true⟩) := by
  funext key
  by_cases e : key = o.name.data.toList
  · subst e
    rw [setF_same]
    have h1 : ((ls.take k).find? fun p => p.name.data.toList == o.name.data.toList) = none := by
      cases h2 : (ls.take k).find? fun p => p.name.data.toList == o.name.data.toList with
      | none => rfl
      | some p => unfold ofF at hn; rw [h2] at hn; cases hn
    simp only [ofF, List.take_add_one, h, Option.toList_some, List.find?_append, h1]
    simp
  · rw [setF_other _ _ e]
    have h3 : (o.name.data.toList == key) = false := by simpa using fun e' => e e'.symm
    simp only [ofF, List.take_add_one, h, Option.toList_some, List.find?_append]
    simp [h3]
    
section
variable {S : Prop} {w w' : World} {own own' : Owner} {db fb rb : Nat} {D D' E E' : DataW Unit} {n n' : Nat} {m : DevM}

/-- A file has got a row of bytes in new memory. -/
theorem Dev.filled (h : Dev S w own db fb rb D E n m) {k : List UInt8} {f : FileM} {p : Nat} {dv v : Value} {bs : List UInt8} (hat : ∀ z, D.atKey (.string k) z = .lit (.int .u64 p))
    (hfa : FileAt w p dv f) (hp : own p = some (3, k)) (hb : Below w.heap.size w w') (hrow : w'.ownsRow w.heap.size 5 1 v bs.length (byteCells bs)) (hs : f.synced ≤ bs.length) (hl : bs.length ≤ 262144) :
    ∃ own', Dev S (w'.setCell ⟨p, 0, none⟩ v) own' db fb rb D E n { m with files := setF m.files k (some ⟨bs, f.synced, f.fresh⟩) } ∧ Step own own' w (w'.setCell ⟨p, 0, none⟩ v) := by
  have hplt := h.lt (b := p) (by simp [hp])
  have hnew : ∀ b, b < w.heap.size → v.ownBlock ≠ some b := fun b hb' e => by have := (hrow.lt b e).1; omega
  have hpblk : w'.heap[p]? = some (.cells #[dv, .int .i64 f.synced, .bool f.fresh] 78 (0, 0)) := (hb.block p hplt).trans hfa.1
  refine ⟨fun b => if v.ownBlock = some b then some (4, k) else own b, ?_, ?_⟩
  · refine h.setFile (p := p) (dv := v) (by simpa [World.setCell] using hb.size) (fun b hb' _ h3 _ => ?_) (fun b hb' => ?_) (fun b hb' => ?_) ?_ h.cnt hat (fun _ _ => rfl) (fun _ _ _ => rfl) ?_ ?_ (fun g hg' => by simp [hg'])
    · rw [Below.heap_setCell _ _ _ _ (fun e => h3 (by rw [e]; exact hp))]
      exact hb.block b (h.lt hb')
    · show (if v.ownBlock = some b then some (4, k) else own b) = own b
      rw [if_neg (hnew b (h.lt hb'))]
    · have hb2 : w'.heap.size ≤ b := by simpa [World.setCell] using hb'
      have hne : v.ownBlock ≠ some b := fun e => by have := (hrow.lt b e).2; omega
      simp only [hne, if_false]
      exact h.old b (Nat.le_trans hb.size hb2)
    · obtain ⟨c, hc⟩ := h.fmap
      refine ⟨c, ownsMap_of_block hc ?_⟩
      rw [Below.heap_setCell _ _ _ _ (fun e => by have := h.ofb; rw [e] at this; change own p = _ at this; rw [hp] at this; simp at this)]
      exact hb.block fb hc.lt
    · refine ⟨by rw [setCell_blk hpblk]; rfl, ?_, hs, hl⟩
      exact ownsRow_of_block (ownsRow_base hrow (Nat.zero_le _)) (fun g hg' => Below.heap_setCell _ _ _ _ (fun e => hnew p hplt (by rw [hg', e])))
    · simp only [hnew p hplt, if_false]; exact hp
  · refine ⟨(Fr.of_below hb).setCell _ _ (fun _ => by simp [hp]), fun b hb' hb2 => ?_⟩
    simp only [hnew b hb', if_false]
    exact hb2

theorem bclone_arg {bv : Value} {bs : List UInt8} (h : BArg w own bv bs) (hl : bs.length ≤ 262144) :
    Calls Tryz.prog 36 #[bv] w fun e w' => ∃ v, e = .returned v ∧ w'.ownsRow w.heap.size 5 1 v bs.length (byteCells bs) ∧ Below w.heap.size w w' := by
  rcases h with ⟨rfl, rfl⟩ | ⟨A, c, rfl, _, hc⟩
  · refine (bclone_nil w).mono ?_
    rintro e w' ⟨rfl, rfl⟩
    exact ⟨_, rfl, ⟨rfl, .inl ⟨rfl, rfl⟩⟩, Below.refl _ _⟩
  · refine (bclone_some A c bs w (by omega) hc).mono ?_
    rintro e w' ⟨v, rfl, h1, h2, _⟩
    exact ⟨v, rfl, h1, h2⟩

end

/-- Between the two calls of Of's round. -/
def OfMid (w : World) (room : Int) (ls : List LogV) (k : Nat) (nm : List UInt8) (db fb rb p : Nat) (w2 : World) : Prop :=
  ∃ (own' : Owner) (D' : DataW Unit) (a l c : _), Dev True w2 own' db fb rb D' (.map []) (k + 1) { ofMk room ls k with files := setF (ofF ls k) nm (some ⟨[], 0, true⟩) } ∧ (∀ z, D'.atKey (.string nm) z = .lit (.int .u64 p)) ∧ FileAt w2 p (.slice a l c) ⟨[], 0, true⟩ ∧
    own' p = some (3, nm) ∧ Step (fun _ => none) own' w w2
/-- Behind Of's round. -/
def OfNext (w : World) (room : Int) (ls : List LogV) (k : Nat) (db fb rb : Nat) (w2 : World) : Prop :=
  ∃ (own' : Owner) (D' : DataW Unit), Dev True w2 own' db fb rb D' (.map []) k (ofMk room ls k) ∧ Step (fun _ => none) own' w w2

theorem of_file {w wr : World} {ow : Owner} {db fb rb k : Nat} {D : DataW Unit} {room : Int} {ls : List LogV} {name : ByteArray} {x : Value} (HD : Dev True wr ow db fb rb D (.map []) k (ofMk room ls k)) (HS : Step (fun _ => none) ow w wr) (hk : k ≤ 64) (hnm : name.size ≤ 281474976710656) (hf : ofF ls k name.data.toList = none)
    {W : World} (hb : Below wr.heap.size wr W) (hnew : W.heap[wr.heap.size]? = some (.cells #[.string name, x] 69)) :
    Calls Tryz.prog 37 #[.pointer (some ⟨db, 0, none⟩), .string name] W fun e w2 => ∃ p, e = .returned (.pointer (some ⟨p, 0, none⟩)) ∧ p ≠ wr.heap.size ∧ w2.cell? ⟨wr.heap.size, 0, none⟩ = some (.string name) ∧ w2.cell? ⟨wr.heap.size, 1, none⟩ = some x ∧ Hid (OfMid w room ls k name.data.toList db fb rb p w2) := by
  refine ((HD.below hb).file (by omega) hnm).mono ?_
  rintro e w2 ⟨own', D', p, dv, f, rfl, h2, hfe, hat, hfa, hp, hg, st⟩
  have hfe' : f = ⟨[], 0, true⟩ := by rw [hfe]; show (ofF ls k name.data.toList).getD _ = _; rw [hf]; rfl
  subst hfe'
  obtain ⟨a, l, c, rfl⟩ : ∃ a l c, dv = .slice a l c := by
    obtain ⟨a, c, h⟩ := row_slice hfa.2.1
    exact ⟨_, _, _, h⟩
  have ho := HD.old wr.heap.size (Nat.le_refl _)
  have hpw : p ≠ wr.heap.size := fun e => by
    have h5 := st.own wr.heap.size (Array.getElem?_eq_some_iff.1 hnew).1 ho
    rw [← e, hp] at h5
    cases h5
  exact ⟨p, rfl, hpw, st.fr.cell (cell_of_blk hnew rfl) (by simp [ho]), st.fr.cell (cell_of_blk hnew rfl) (by simp [ho]), own', D', a, l, c, h2, hat, hfa, hp, (HS.trans (below_step ow hb)).trans st⟩

theorem of_clone {w w2 : World} {db fb rb k p : Nat} {room : Int} {ls : List LogV} {A : Addr} {o : LogV} (h : OfMid w room ls k o.name.data.toList db fb rb p w2) (ho : ls[k]? = some o) (hat : LAt w A k o) (hok : OfAt ls k o)
    {b : Nat} {x y : Value} (hpb : p ≠ b) (c0 : w2.cell? ⟨b, 0, none⟩ = some x) (c1 : w2.cell? ⟨b, 1, none⟩ = some y) :
    Calls Tryz.prog 36 #[.slice o.da o.ds.length o.dc] w2 fun e w3 => ∃ a l c a' l' c', e = .returned (.slice a' l' c') ∧ w3.cell? ⟨p, 0, none⟩ = some (.slice a l c) ∧ w3.frozen? ⟨p, 0, none⟩ = false ∧ w3.cell? ⟨b, 0, none⟩ = some x ∧ w3.cell? ⟨b, 1, none⟩ = some y ∧ (w3.setCell ⟨p, 0, none⟩ (.slice a' l' c')).cell? ⟨b, 0, none⟩ = some x ∧ (w3.setCell ⟨p, 0, none⟩ (.slice a' l' c')).cell? ⟨b, 1, none⟩ = some y ∧ Hid (OfNext w room ls (k + 1) db fb rb (w3.setCell ⟨p, 0, none⟩ (.slice a' l' c'))) := by
  obtain ⟨own', D', a, l, c, h2, hz, hfa, hp, st⟩ := h
  refine (bclone_arg (hat.hb.step st) hok.2.2).mono ?_
  rintro e w3 ⟨v, rfl, hrow, hb⟩
  obtain ⟨own3, h3, st3⟩ := h2.filled hz hfa hp hb hrow (Nat.zero_le _) hok.2.2
  obtain ⟨a', c', rfl⟩ := row_slice hrow
  have hplt := h2.lt (b := p) (by simp [hp])
  have hblk := (hb.block p hplt).trans hfa.1
  have d0 := (hb.cell (World.block_lt_of_cell? _ _ c0)).trans c0
  have d1 := (hb.cell (World.block_lt_of_cell? _ _ c1)).trans c1
  have e1 : ofMk room ls (k + 1) = { { ofMk room ls k with files := setF (ofF ls k) o.name.data.toList (some ⟨[], 0, true⟩) } with files := setF (setF (ofF ls k) o.name.data.toList (some ⟨[], 0, true⟩)) o.name.data.toList (some ⟨o.ds, 0, true⟩) } := by
    simp only [ofMk, ofF_succ ho hok.2.1, setF_twice]
  refine ⟨a, l, c, a', _, c', rfl, cell_of_blk hblk rfl, frozen_of_blk hblk, d0, d1, (World.cell?_of_block (Below.heap_setCell _ _ _ _ (Ne.symm hpb))).trans d0, (World.cell?_of_block (Below.heap_setCell _ _ _ _ (Ne.symm hpb))).trans d1, own3, D', ?_, st.trans st3⟩
  rw [e1]
  exact h3

/-- What Of leaves. -/
def OfPost (w : World) (room : Int) (ls : List LogV) (e : Ending) (w' : World) : Prop :=
  (e = .returned (.pointer none) ∧ Below w.heap.size w w' ∧ ¬ OfOk ls) ∨
  (∃ (db fb rb : Nat) (own : Owner) (D : DataW Unit) (n : Nat), e = .returned (.pointer (some ⟨db, 0, none⟩)) ∧ OfOk ls ∧ Dev True w' own db fb rb D (.map []) n (ofM room ls) ∧ n ≤ 64 ∧ Step (fun _ => none) own w w')

set_option maxHeartbeats 4000000 in
set_option maxRecDepth 100000 in
theorem of_calls (room : Int) (a : Option Addr) (c : Nat) (ls : List LogV) (w : World) (hr : -9223372036854775808 ≤ room ∧ room ≤ 9223372036854775807) (hls : LRow w a ls) (hl : ls.length ≤ maxLen) :
    Calls Tryz.prog 13 #[.int .i64 room, .slice a ls.length c] w (OfPost w room ls) := by
  have Hls := Lib.hid hls
  obtain ⟨l, hll⟩ : ∃ l, ls.length = l := ⟨_, rfl⟩
  rw [hll] at hl ⊢
  have Hl := Lib.hid hll
  unfold maxLen at hl
  clear hls hll
  by_cases h64 : 64 < l
  · have Hbad : Hid (¬ OfOk ls) := fun h => by have := h.1; rw [Hl.out] at this; omega
    have hd : decide ((64 : Int) < (l : Int)) = true := by simp; omega
    go_enter Tryz.func13, Tryz.ntmps13
    go_wp2_with fail
    go_ret
    exact Or.inl ⟨rfl, Below.refl _ _, Hbad.out⟩
  · have hd : decide ((64 : Int) < (l : Int)) = false := by simp; omega
    go_enter Tryz.func13, Tryz.ntmps13
    go_wp2_with fail
    refine (Dev.new True w room hr).mono ?_
    rintro e w1 ⟨rfl, own1, h1, st1⟩
    have H1 : Hid (Dev True w1 own1 (w.heap.size + 2) w.heap.size (w.heap.size + 1) (.map []) (.map []) 0 (ofMk room ls 0)) := h1
    have ST1 := Lib.hid st1
    clear h1 st1 hd hr
    go_wp2_with fail
    go_loopw [15] (fun i wr => ∃ (k : Nat) (ow : Owner) (D : DataW Unit), k ≤ l ∧ i = .int .i64 k ∧ Hid (∀ j o, j < k → ls[j]? = some o → OfAt ls j o) ∧ Hid (Dev True wr ow (w.heap.size + 2) w.heap.size (w.heap.size + 1) D (.map []) k (ofMk room ls k)) ∧ Hid (Step (fun _ => none) ow w wr)) (fun i _ => l - (intOf i).toNat)
    case atStart => exact ⟨0, own1, _, Nat.zero_le _, rfl, (fun j o h _ => absurd h (Nat.not_lt_zero j)), H1.out, ST1.out⟩
    case round =>
      obtain ⟨k, ow, D, hk, rfl, Hok, HD, HS⟩ := hrel
      by_cases hlt : k < l
      · obtain ⟨o, ho⟩ : ∃ o, ls[k]? = some o := ⟨_, List.getElem?_eq_getElem (by rw [Hl.out]; exact hlt)⟩
        have Ho := Lib.hid ho
        obtain ⟨A, rfl, hat⟩ := Hls.out.below HS.out.below k _ ho
        have c0 := hat.c0
        have c1 := hat.c1
        have hnm := hat.hname
        unfold fld at c1
        unfold maxLen at hnm
        have Hat := Lib.hid hat
        clear ho hat
        have hd : decide ((k : Int) < (l : Int)) = true := by simpa using hlt
        obtain ⟨name, da, dc, ds⟩ := o
        dsimp only at c0 c1 hnm
        cases hnk : nameOk name.data.toList with
        | false =>
          have Hbad : Hid (¬ OfOk ls) := fun h => by have := (h.2 k _ Ho.out).1; rw [hnk] at this; cases this
          have Hnk : Hid (∀ w, Calls Tryz.prog 35 #[.string name] w fun e w' => e = .returned (.bool false) ∧ w' = w) := fun w => (isName_calls name w (by unfold maxLen; omega)).mono fun e w' h => ⟨by rw [h.1, hnk], h.2.symm⟩
          clear hnk
          go_wp2_with fail
          go_quiet ((go_at_call 35; refine Calls.quiet_of_same (Hnk.out _)))
          go_wp2_with fail
          go_ret
          exact Or.inl ⟨rfl, below_drewN (HS.out.below.alloc HS.out.fr.size _) _, Hbad.out⟩
        | true =>
          have Hnk : Hid (∀ w, Calls Tryz.prog 35 #[.string name] w fun e w' => e = .returned (.bool true) ∧ w' = w) := fun w => (isName_calls name w (by unfold maxLen; omega)).mono fun e w' h => ⟨by rw [h.1, hnk], h.2.symm⟩
          have HNK := Lib.hid hnk
          clear hnk
          have HD1 := Lib.hid (HD.out.alloc (.cells #[.string name, .slice da ds.length dc] 69))
          have HDn : Hid (∀ q, Dev True ((wr.alloc (.cells #[.string name, .slice da ds.length dc] 69)).drewN q) ow (w.heap.size + 2) w.heap.size (w.heap.size + 1) D (.map []) k (ofMk room ls k)) := fun q => HD1.out.below (below_drewN (Below.refl _ _) q)
          cases hf : ofF ls k name.data.toList with
          | some f =>
            have Hbad : Hid (¬ OfOk ls) := fun h => by have := (h.2 k _ Ho.out).2.1; rw [hf] at this; cases this
            have hlk : ∃ p, ∀ q, (Instr.lookup 72 (.map (some w.heap.size)) (.string name) false).run Tryz.prog ((wr.alloc (.cells #[.string name, .slice da ds.length dc] 69)).drewN q) = .ok (.pointer (some ⟨p, 0, none⟩)) ((wr.alloc (.cells #[.string name, .slice da ds.length dc] 69)).drewN q) := by
              obtain ⟨p, _, _, hat, _⟩ := (HDn.out 0).look_some (by unfold maxLen; omega) hf
              refine ⟨p, fun q => ?_⟩
              obtain ⟨p', _, h5, hat', _⟩ := (HDn.out q).look_some (by unfold maxLen; omega) hf
              have := (hat .nil).symm.trans (hat' .nil)
              simp at this
              obtain rfl : p' = p := by omega
              exact h5
            obtain ⟨p, hlk⟩ := hlk
            have hlk0 := hlk 0
            have c2 := HD1.out.c1
            clear hf
            go_wp2_with fail
            go_quiet ((go_at_call 35; refine Calls.quiet_of_same (Hnk.out _)))
            go_wp2_with fail
            go_ret
            exact Or.inl ⟨rfl, below_drewN (HS.out.below.alloc HS.out.fr.size _) _, Hbad.out⟩
          | none =>
            have hlk : ∀ q, (Instr.lookup 72 (.map (some w.heap.size)) (.string name) false).run Tryz.prog ((wr.alloc (.cells #[.string name, .slice da ds.length dc] 69)).drewN q) = .ok (.pointer none) ((wr.alloc (.cells #[.string name, .slice da ds.length dc] 69)).drewN q) := fun q => (HDn.out q).look_none (by unfold maxLen; omega) hf
            have hlk0 := hlk 0
            have c2 := HD1.out.c1
            by_cases hlong : 262144 < ds.length
            · have Hbad : Hid (¬ OfOk ls) := fun h => by have := (h.2 k _ Ho.out).2.2; simp only at this; omega
              have hd4 : decide ((262144 : Int) < (ds.length : Int)) = true := by simp; omega
              clear hf
              go_wp2_with fail
              go_quiet ((go_at_call 35; refine Calls.quiet_of_same (Hnk.out _)))
              go_wp2_with fail
              go_ret
              exact Or.inl ⟨rfl, below_drewN (HS.out.below.alloc HS.out.fr.size _) _, Hbad.out⟩
            · have hd4 : decide ((262144 : Int) < (ds.length : Int)) = false := by simp; omega
              have Hf := Lib.hid hf
              clear hf
              go_wp2_with fail
              go_quiet ((go_at_call 35; refine Calls.quiet_of_same (Hnk.out _)))
              go_wp2_with fail
              have hblk : (((wr.alloc (.cells #[.string name, .slice da ds.length dc] 69)).drewN nq).drew).heap[wr.heap.size]? = some (.cells #[.string name, .slice da ds.length dc] 69) :=
                ((below_drewN (Below.refl (wr.heap.size + 1) (wr.alloc (.cells #[.string name, .slice da ds.length dc] 69))) nq).block wr.heap.size (by omega)).trans (heap_alloc_new wr _)
              have hfl := of_file HD.out HS.out (by omega) (by have h9 := (nameOk_len HNK.out).2; simp at h9; omega) Hf.out ((below_drewN ((Below.refl _ wr).alloc (Nat.le_refl _) (.cells #[.string name, .slice da ds.length dc] 69)) nq).drew) hblk
              have Hfl := Lib.hid hfl
              have hok : OfAt ls k ⟨name, da, dc, ds⟩ := ⟨HNK.out, Hf.out, by show ds.length ≤ 262144; omega⟩
              obtain ⟨A0, hA0, hat0⟩ := Hls.out k _ Ho.out
              injection hA0 with hA0
              subst hA0
              have Hcl : Hid (∀ p w2, OfMid w room ls k name.data.toList (w.heap.size + 2) w.heap.size (w.heap.size + 1) p w2 → p ≠ wr.heap.size → w2.cell? ⟨wr.heap.size, 0, none⟩ = some (.string name) → w2.cell? ⟨wr.heap.size, 1, none⟩ = some (.slice da ds.length dc) → _) := fun p w2 hm hp c0 c1 => of_clone (p := p) (w2 := w2) hm Ho.out hat0 hok hp c0 c1
              dsimp only at Hcl
              have b0 : (((wr.alloc (.cells #[.string name, .slice da ds.length dc] 69)).drewN nq).drew).cell? ⟨wr.heap.size, 0, none⟩ = some (.string name) := cell_of_blk hblk rfl
              have b1 : (((wr.alloc (.cells #[.string name, .slice da ds.length dc] 69)).drewN nq).drew).cell? ⟨wr.heap.size, 1, none⟩ = some (.slice da ds.length dc) := cell_of_blk hblk rfl
              clear hfl hok hat0 hlk hlk0 c2 hd4 hblk
              go_region_held3 (fun W => W.cell? ⟨wr.heap.size, 0, none⟩ = some (.string name) ∧ W.cell? ⟨wr.heap.size, 1, none⟩ = some (.slice da ds.length dc))
                ((refine ⟨?_, ?_⟩ <;> assumption))
                (first
                  | (go_at_call 37; refine Hfl.out.mono ?_; rintro e w2 ⟨p, rfl, hpw, r0, r1, hmid⟩)
                  | (go_at_call 36; refine (Hcl.out _ _ hmid.out hpw r0 r1).mono ?_; rintro e w3 ⟨a, l', c, a', l'', c', rfl, s0, s1, t0, t1, t2, t3, hnext⟩))
              all_goals
                obtain ⟨own5, D5, h5, st5⟩ := hnext.out
                have H5 := Lib.hid h5
                have ST5 := Lib.hid st5
                have Hok1 : Hid (∀ j o, j < k + 1 → ls[j]? = some o → OfAt ls j o) := fun j o hj hjo => by
                  by_cases e : j = k
                  · subst e
                    rw [Ho.out] at hjo
                    injection hjo with hjo
                    subst hjo
                    exact ⟨HNK.out, Hf.out, by show ds.length ≤ 262144; omega⟩
                  · exact Hok.out j o (by omega) hjo
                clear h5 st5 hnext t0 t1 t2 t3 s0 s1 r0 r1 hmid b0 b1 Hcl Hfl
                go_wp2_with fail
                go_roundw
                case rel => exact ⟨k + 1, own5, D5, by omega, by go_num, Hok1, H5, ST5⟩
                case measure => simp [intOf]; omega
      · obtain rfl : k = l := by omega
        have hd : decide ((k : Int) < (k : Int)) = false := by simp
        go_wp2_with fail
        refine (HD.out.settle (S' := True)).mono ?_
        rintro e w2 ⟨rfl, h2, st2⟩
        have H2 := Lib.hid h2
        have ST2 := Lib.hid st2
        clear h2 st2
        go_wp2_with fail
        go_ret
        have hok : OfOk ls := ⟨by rw [Hl.out]; omega, fun j o hj => Hok.out j o (by have := (List.getElem?_eq_some_iff.1 hj).1; rw [Hl.out] at this; exact this) hj⟩
        have e2 : settleM (ofMk room ls k) = ofM room ls := by unfold ofM; rw [Hl.out]
        have h3 := H2.out
        rw [e2] at h3
        exact Or.inr ⟨_, _, _, ow, D, k, rfl, hok, h3, by omega, HS.out.trans ST2.out⟩

end Go.Proofs.YtdpbnacabinlgaaGreatDoor
namespace Go.Proofs.YtdpbnacabinlgaaGreatDoor
open Go.ChangeShapes Go.WideShapes Go.ChangeAt Go.RowKit Go.Lib Go.Deep

section
variable {H : Type} {enc : TypeId × Value → H} {w : World} {base : Nat} {spare : Nat → Bool} {held : Bool}

set_option maxRecDepth 100000 in
/-- A list of files that came in. -/
theorem open_logs {fuel : Nat} {a : Option Addr} {len cap : Nat} {x : DataW H × List MemPlace} (h : DataW.trod enc Tryz.prog w base spare held fuel 22 [.slice a len cap] = some x) :
    ∃ ls : List LogV, len = ls.length ∧ ls.length ≤ maxLen ∧ LRow w a ls := by
  rcases open_slice_pairs Tryz.underlying22 Tryz.underlying69 (by kernel_rfl) rfl rfl (by kernel_rfl) (by kernel_rfl) h with ⟨hcs, _⟩ | ⟨A, l, c, m, n, V0, V1, D0, D1, P0, P1, hcs, _, hl, hm, hmm, _, hx⟩
  · simp at hcs
    obtain ⟨rfl, rfl, rfl⟩ := hcs
    exact ⟨[], rfl, Nat.zero_le _, fun j s hj => by simp at hj⟩
  · simp at hcs
    obtain ⟨rfl, rfl, rfl⟩ := hcs
    have hlm : len ≤ m := by rw [hmm]; split <;> omega
    have hall : ∀ i, i < len → ∃ q : LogV, LAt w A i q := fun i hi => by
      obtain ⟨e0, e1, t0, t1⟩ := hx i (by omega)
      obtain ⟨s1, hv1, _, hs1⟩ := DataW.trod_string Tryz.underlying9 t0
      obtain ⟨a2, l2, c2, hv2⟩ : ∃ a l c, V1 i = .slice a l c := by
        rcases DataW.trod_slice Tryz.underlying49 t1 with ⟨h, _⟩ | ⟨a, l, c, _, _, _, _, h, _⟩
        · simp at h; exact ⟨_, _, _, h⟩
        · simp at h; exact ⟨_, _, _, h⟩
      simp at hv1
      rw [hv2] at t1 e1
      rw [hv1] at e0
      obtain ⟨bs, rfl, hbl, hb⟩ := open_bytes t1
      have e1' : w.cell? (fld A 2 i 1) = some (.slice a2 bs.length c2) := by
        rw [← e1, ← Go.Deep.add_add]
        rfl
      exact ⟨⟨s1, a2, c2, bs⟩, e0, e1', hs1, hbl, hb w (Below.refl _ _) _ (fun _ _ => rfl)⟩
    obtain ⟨q, hq⟩ := choose_lt hall
    refine ⟨(List.range len).map q, by simp, by simp; omega, fun j o hj => ⟨A, rfl, ?_⟩⟩
    obtain ⟨hjl, rfl⟩ := List.getElem?_eq_some_iff.1 hj
    simp at hjl ⊢
    exact hq j hjl

end

/-- A right list's names are all different. -/
theorem OfOk.nodup {ls : List LogV} (h : OfOk ls) {i j : Nat} {p q : LogV} (hi : ls[i]? = some p) (hj : ls[j]? = some q) (hij : i < j) : p.name.data.toList ≠ q.name.data.toList := fun e => by
  have h1 := (h.2 j q hj).2.1
  have hm : p ∈ ls.take j := by
    rw [List.mem_take_iff_getElem]
    obtain ⟨hi1, hi2⟩ := List.getElem?_eq_some_iff.1 hi
    exact ⟨i, by omega, hi2⟩
  cases h2 : (ls.take j).find? fun o => o.name.data.toList == q.name.data.toList with
  | none =>
    have := List.find?_eq_none.1 h2 p hm
    simp [e] at this
  | some z =>
    unfold ofF at h1
    rw [h2] at h1
    cases h1

end Go.Proofs.YtdpbnacabinlgaaGreatDoor
namespace Go.Proofs.YtdpbnacabinlgaaGreatDoor
open Go.RowKit Go.Lib Go.Maps Go.ChangeMaps

def nmOf (o : LogV) : List UInt8 := o.name.data.toList

theorem OfOk.find {ls : List LogV} (h : OfOk ls) {i : Nat} {x : LogV} (hi : ls[i]? = some x) : ofF ls ls.length (nmOf x) = some ⟨x.ds, 0, true⟩ := by
  have hm : x ∈ ls := List.mem_of_getElem? hi
  have hs : (ls.find? fun o => o.name.data.toList == nmOf x).isSome = true := List.find?_isSome.2 ⟨x, hm, by simp [nmOf]⟩
  obtain ⟨y, hy⟩ := Option.isSome_iff_exists.1 hs
  have hp := List.find?_some hy
  have hym := List.mem_of_find?_eq_some hy
  obtain ⟨j, hj⟩ := List.getElem?_of_mem hym
  have he : y.name.data.toList = x.name.data.toList := by
    have : (y.name.data.toList == x.name.data.toList) = true := hp
    exact eq_of_beq this
  have hij : j = i := by
    rcases Nat.lt_trichotomy j i with hlt | heq | hgt
    · exact absurd he (h.nodup hj hi hlt)
    · exact heq
    · exact absurd he.symm (h.nodup hi hj hgt)
  subst hij
  have : y = x := by rw [hj] at hi; injection hi
  subst this
  unfold ofF
  rw [List.take_length]
  have e1 : (ls.find? fun o => o.name.data.toList == nmOf y) = some y := hy
  rw [e1]
  rfl

theorem OfOk.mem {ls : List LogV} (k : List UInt8) : (ofF ls ls.length k).isSome = true ↔ k ∈ ls.map nmOf := by
  unfold ofF
  rw [List.take_length, Option.isSome_map, List.find?_isSome, List.mem_map]
  constructor
  · rintro ⟨o, h1, h2⟩
    exact ⟨o, h1, eq_of_beq h2⟩
  · rintro ⟨o, h1, h2⟩
    exact ⟨o, h1, by rw [← h2]; simp [nmOf]⟩

theorem OfOk.names {ls : List LogV} (h : OfOk ls) : (ls.map nmOf).Nodup := by
  rw [List.nodup_iff_pairwise_ne, List.pairwise_iff_getElem]
  intro i j hi hj hij
  simp only [List.length_map] at hi hj
  rw [List.getElem_map, List.getElem_map]
  exact h.nodup (List.getElem?_eq_getElem hi) (List.getElem?_eq_getElem hj) hij

/-- The device behind a Remove of one of its files. -/
def rmM (room : Int) (ls : List LogV) (x : LogV) : DevM := { room := room, acts := 1, fuse := -1, down := false, files := setF (ofM room ls).files (nmOf x) none, gone := setF (fun _ => none) (nmOf x) (some x.ds) }

theorem remove_of {room : Int} {ls : List LogV} (h : OfOk ls) {i : Nat} {x : LogV} (hi : ls[i]? = some x) : removeM (ofM room ls) (nmOf x) = (rmM room ls x, 0) := by
  have h1 : nameOk (nmOf x) = true := (h.2 i x hi).1
  have h2 : (ofM room ls).files (nmOf x) = some ⟨x.ds, x.ds.length, false⟩ := by
    show (ofF ls ls.length (nmOf x)).map settleF = _
    rw [h.find hi]
    rfl
  have h3 : (ofM room ls).down = false := rfl
  have h4 : (ofM room ls).fuse = -1 := rfl
  unfold removeM
  rw [h3, h4, h1, h2]
  simp [rmM, fuseLess]
  exact ⟨rfl, rfl, rfl⟩

theorem rm_append (room : Int) (ls : List LogV) (x : LogV) (sz used : Nat) (k bs : List UInt8) : (appendM (rmM room ls x) sz used k bs).1.gone = (rmM room ls x).gone := by
  unfold appendM
  split
  · rfl
  · split
    · rfl
    · split
      · rfl
      · split <;> rfl

theorem read_back {m : DevM} {ks : List (ByteArray × Int)} {k d : List UInt8} (hn : nameOk k = true) (hg : m.gone k = some d) : readM (crashM ks m) k = (d, 0) := by
  have h1 : (crashM ks m).down = false := rfl
  have h2 : (crashM ks m).files k = some ⟨d, d.length, false⟩ := by
    show (crashFiles ks m k).map settleF = _
    unfold crashFiles
    rw [hg]
    rfl
  unfold readM
  rw [h1, hn, h2]
  rfl

/-- The device behind a Remove, a Sync and a crash. -/
def rscM (ks : List (ByteArray × Int)) (room : Int) (ls : List LogV) (x : LogV) : DevM := crashM ks (syncM (rmM room ls x)).1

theorem rsync (room : Int) (ls : List LogV) (x : LogV) : (syncM (rmM room ls x)).2 = 0 := rfl

theorem rsc_some (ks : List (ByteArray × Int)) (room : Int) (ls : List LogV) (x : LogV) (k : List UInt8) : ((rscM ks room ls x).files k).isSome = (setF (ofM room ls).files (nmOf x) none k).isSome := by
  show ((crashFiles ks (syncM (rmM room ls x)).1 k).map settleF).isSome = _
  have e1 : crashFiles ks (syncM (rmM room ls x)).1 k = ((setF (ofM room ls).files (nmOf x) none k).map settleF).bind (crashF ks k) := rfl
  rw [e1]
  cases h : setF (ofM room ls).files (nmOf x) none k with
  | none => rfl
  | some f => simp [crashF, settleF]

theorem rsc_read {ks : List (ByteArray × Int)} {room : Int} {ls : List LogV} {x : LogV} (hn : nameOk (nmOf x) = true) : readM (rscM ks room ls x) (nmOf x) = ([], 12) := by
  have h1 : (rscM ks room ls x).down = false := rfl
  have h2 : (rscM ks room ls x).files (nmOf x) = none := by
    have := rsc_some ks room ls x (nmOf x)
    rw [setF_same] at this
    simpa using this
  unfold readM
  rw [h1, hn, h2]
  rfl

theorem rsc_size {S : Prop} {w : World} {own : Owner} {db fb rb : Nat} {D E : DataW Unit} {n : Nat} {ks : List (ByteArray × Int)} {room : Int} {ls : List LogV} {x : LogV} (h : Dev S w own db fb rb D E n (rscM ks room ls x)) (hok : OfOk ls) {i : Nat} (hi : ls[i]? = some x) :
    Maps.size D = ls.length - 1 := by
  have hnd := hok.names
  have hm : nmOf x ∈ ls.map nmOf := List.mem_map_of_mem (List.mem_of_getElem? hi)
  have h1 := (h.size_of ((ls.map nmOf).erase (nmOf x)) (hnd.erase _) (fun k => by
    rw [rsc_some, hnd.mem_erase_iff]
    by_cases e : k = nmOf x
    · subst e; simp [setF_same]
    · rw [setF_other _ _ e]
      have e2 : ((ofM room ls).files k).isSome = (ofF ls ls.length k).isSome := by
        show ((ofF ls ls.length k).map settleF).isSome = _
        simp
      rw [e2, OfOk.mem]
      simp [e])).1
  rw [h1, List.length_erase_of_mem hm, List.length_map]

end Go.Proofs.YtdpbnacabinlgaaGreatDoor
namespace Go.Proofs.YtdpbnacabinlgaaGreatDoor
open Go.RowKit Go.Lib Go.Maps Go.ChangeMaps

/-- 'string(b)' of bytes that came in. -/
theorem conv_barg {w : World} {own : Owner} {v : Value} {d : List UInt8} (h : BArg w own v d) : (convert 49 9 v).run Tryz.prog w = .ok (.string ⟨d.toArray⟩) w := by
  rcases h with ⟨rfl, rfl⟩ | ⟨A, c, rfl, _, hc⟩
  · exact run_convert_bytes_nil w 49 5 Tryz.underlying49 Tryz.underlying5 0 0 9 Tryz.underlying9
  · exact run_convert_bytes_back w 49 9 5 A c d Tryz.underlying49 Tryz.underlying5 Tryz.underlying9 (fun j hj => hc j _ (List.getElem?_eq_getElem hj))

theorem Fine.below {w w' : World} (h : Below w.heap.size w w') : Fine w (.returned (.bool true)) w' := ⟨rfl, h⟩

end Go.Proofs.YtdpbnacabinlgaaGreatDoor
namespace Go.Proofs.YtdpbnacabinlgaaGreatDoor
open Go.ChangeShapes Go.WideShapes Go.ChangeAt Go.RowKit Go.Lib Go.Deep
open Go.ChangeMaps (open_string shut_string)

namespace deviceRemoved
end deviceRemoved
end Go.Proofs.YtdpbnacabinlgaaGreatDoor
namespace Go.Proofs.YtdpbnacabinlgaaGreatDoor
open Go.RowKit Go.Lib Go.Maps Go.ChangeMaps Go.Sort

theorem appendM_acts (m : DevM) (sz used : Nat) (k bs : List UInt8) : (appendM m sz used k bs).1.acts ≤ m.acts + 1 := by
  unfold appendM
  split
  · show m.acts ≤ _; omega
  · split
    · show m.acts ≤ _; omega
    · split
      · show m.acts ≤ _; omega
      · split
        · show m.acts ≤ _; omega
        · exact Int.le_refl _

theorem removeM_acts (m : DevM) (k : List UInt8) : (removeM m k).1.acts ≤ m.acts + 1 := by
  unfold removeM
  split
  · show m.acts ≤ _; omega
  · split
    · show m.acts ≤ _; omega
    · split
      · show m.acts ≤ _; omega
      · exact Int.le_refl _

theorem syncM_acts (m : DevM) : (syncM m).1.acts ≤ m.acts + 1 := by
  unfold syncM
  split
  · show m.acts ≤ _; omega
  · exact Int.le_refl _

theorem doesM_acts (m : DevM) (sz used : Nat) (o : OpV) : (doesM m sz used o).1.acts ≤ m.acts + 1 := by
  unfold doesM
  split
  · exact appendM_acts _ _ _ _ _
  · split
    · exact removeM_acts _ _
    · split
      · exact syncM_acts _
      · show m.acts ≤ _; omega

theorem crashF_settleF (ks : List (ByteArray × Int)) (k : List UInt8) (f : FileM) : crashF ks k (settleF f) = some (settleF f) := by
  have e1 : cutK ks k (settleF f) = f.data.length := by simp only [cutK, settleF]; omega
  simp [crashF, e1]
  simp [settleF]

theorem settleF_twice (f : FileM) : settleF (settleF f) = settleF f := rfl

theorem crashM_files (ks : List (ByteArray × Int)) (m : DevM) (k : List UInt8) : (crashM ks m).files k = (crashFiles ks m k).map settleF := rfl

/-- A crash behind a crash changes nothing. -/
theorem crash_crash (ks ks' : List (ByteArray × Int)) (m : DevM) : crashM ks' (crashM ks m) = crashM ks m := by
  have h : (fun k => (crashFiles ks' (crashM ks m) k).map settleF) = (crashM ks m).files := by
    funext k
    have e1 : crashFiles ks' (crashM ks m) k = ((crashM ks m).files k).bind (crashF ks' k) := rfl
    rw [e1, crashM_files]
    cases crashFiles ks m k with
    | none => rfl
    | some f => simp [crashF_settleF, settleF_twice]
  unfold crashM at h ⊢
  simp only [h]

/-- Nor does a Sync. -/
theorem sync_crash (ks : List (ByteArray × Int)) (m : DevM) : (syncM (crashM ks m)).2 = 0 ∧ (syncM (crashM ks m)).1.files = (crashM ks m).files := by
  refine ⟨rfl, ?_⟩
  have e1 : (syncM (crashM ks m)).1.files = fun k => ((crashM ks m).files k).map settleF := rfl
  rw [e1]
  funext k
  rw [crashM_files]
  cases crashFiles ks m k with
  | none => rfl
  | some f => simp [settleF_twice]

section
variable {S S' : Prop} {w w' : World} {own own' : Owner} {db fb rb : Nat} {D D' E E' : DataW Unit} {n n' : Nat} {m m' : DevM}

/-- The names of a device's files. -/
theorem Dev.keys (h : Dev S w own db fb rb D E n m) : (strKeys D).Nodup ∧ ∀ k, k ∈ strKeys D ↔ (m.files k).isSome = true := by
  obtain ⟨c, hc⟩ := h.fmap
  obtain ⟨es, rfl, hap, _⟩ := hc.entries lawS
  have hst := ownsMap_strs hc
  have hdom := h.dom
  have hk : ∀ p : Lit × DataW Unit, strOf p.1 = keyS p.1 := fun p => by cases p.1 <;> rfl
  refine ⟨?_, fun k => ?_⟩
  · show (es.map fun p => strOf p.1).Nodup
    rw [List.nodup_iff_pairwise_ne, List.pairwise_map]
    refine hap.imp_of_mem (fun {p q} hp hq hne e => hne ?_)
    rw [hk, hk] at e
    rw [hst p hp, hst q hq, e]
  · show k ∈ (es.map fun p => strOf p.1) ↔ _
    rw [← hdom k]
    constructor
    · intro hk1
      obtain ⟨p, hp, rfl⟩ := List.mem_map.1 hk1
      refine List.any_eq_true.2 ⟨p, hp, ?_⟩
      rw [hk, ← hst p hp]
      rw [hst p hp]
      exact WideAt.sameKey_self trivial
    · intro hk1
      obtain ⟨p, hp, hpk⟩ := List.any_eq_true.1 hk1
      exact List.mem_map.2 ⟨p, hp, by rw [WideAt.sameKey_eq hpk]; rfl⟩

/-- Two devices of the same files tell the same names, and have as many bytes. -/
theorem Dev.same (h : Dev S w own db fb rb D E n m) {db' fb' rb' : Nat} (h' : Dev S' w' own' db' fb' rb' D' E' n' m') (hf : m'.files = m.files) : (strKeys D').Perm (strKeys D) ∧ Maps.size D' = Maps.size D ∧ usedD D' m'.files = usedD D m.files := by
  obtain ⟨h1, h2⟩ := h.keys
  obtain ⟨h3, h4⟩ := h'.keys
  have hp : (strKeys D').Perm (strKeys D) := (List.perm_ext_iff_of_nodup h3 h1).2 fun k => by rw [h2, h4, hf]
  have s1 := h.size_of (strKeys D) h1 (fun k => (h2 k).symm)
  have s2 := h'.size_of (strKeys D) h1 (fun k => by rw [hf]; exact (h2 k).symm)
  exact ⟨hp, s2.1.trans s1.1.symm, by rw [s2.2, s1.2, hf]⟩

end

/-- Names that a device does not own. -/
def NRow (w : World) (own : Owner) (a : Option Addr) (ss : List (List UInt8)) : Prop := ∀ j s, ss[j]? = some s → ∃ ad, a = some ad ∧ own ad.block = none ∧ w.cell? (ad.add j) = some (encStr s)

theorem NRow.step {w w' : World} {own own' : Owner} {a : Option Addr} {ss : List (List UInt8)} (h : NRow w own a ss) (hs : Step own own' w w') : NRow w' own' a ss := fun j s hj => by
  obtain ⟨ad, h1, h2, h3⟩ := h j s hj
  have hlt := World.block_lt_of_cell? _ _ h3
  rw [add_block] at hlt
  exact ⟨ad, h1, hs.own _ hlt h2, hs.fr.cell h3 (by rw [add_block]; simp [h2])⟩

theorem NRow.of_owns {w : World} {own : Owner} {B : Nat} {v : Value} {ss : List (List UInt8)} (h : w.ownsRow B 9 1 v ss.length (ss.map encStr)) (ho : ∀ b, B ≤ b → own b = none) : ∃ a c, v = .slice a ss.length c ∧ NRow w own a ss := by
  have hc := fun g hg => h.cells (g := g) hg
  rcases h.2 with ⟨rfl, h0⟩ | ⟨g, cap, cur, rfl, hg, _⟩
  · obtain rfl : ss = [] := List.eq_nil_of_length_eq_zero h0
    exact ⟨none, 0, rfl, fun j s hj => by simp at hj⟩
  · exact ⟨_, cap, rfl, fun j s hj => ⟨_, rfl, ho g hg, hc g rfl j _ (by simp [hj])⟩⟩

end Go.Proofs.YtdpbnacabinlgaaGreatDoor
