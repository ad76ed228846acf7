/- Both devices: what they agree on, and that each call keeps it, in plain words. | Both devices: Remove, Sync, Read, New keep what they agree on. | Both devices: how many files, how many bytes, which names. | Great, with what it says of each op's bytes. | Both devices: a crash keeps what they agree on. | The document's own device: what each round of a crash adds, in plain words; a slice's beginning. | The document's own device: what the second loop of a crash adds, in plain words. | The document's own device: Crash. -/
import Derived.Test.YteonkojfnmbpoaaK7
namespace Go.Proofs.Yteonkojfnmbpoaa
open Go.RowKit Go.Lib Go.Maps Go.ChangeMaps Go.Sort

def toF (f : RF) : FileM := ⟨f.data, f.done, !f.there⟩

/-- The program's device and the document's are the same. -/
structure Agree (m : DevM) (r : RDm) : Prop where
  files : ∀ k, m.files k = (r.L.find? (fun f => f.nm == k)).map toF
  gone : ∀ k, m.gone k = (r.Gone.find? (fun f => f.nm == k)).map (fun f => f.data.take f.done)
  once : ∀ f ∈ r.Gone, ∀ g ∈ r.L, g.nm = f.nm → g.there = false
  rising : Rising r.L
  room : m.room = r.room
  acts : m.acts = r.acts
  down : m.down = r.off
  fused : r.fused = decide (0 ≤ m.fuse)
  left : r.left = max m.fuse 0

section
variable {m : DevM} {r : RDm}

theorem Agree.off (h : Agree m r) : (m.down || m.fuse == 0) = isOff r := by
  unfold isOff
  rw [h.down, h.fused, h.left]
  congr 1
  by_cases h1 : m.fuse = 0
  · rw [h1]; rfl
  · have e1 : (m.fuse == 0) = false := by simpa using h1
    rw [e1]
    by_cases h2 : 0 ≤ m.fuse
    · have e2 : (max m.fuse 0 == 0) = false := by simp; omega
      rw [e2]; simp
    · have e2 : decide (0 ≤ m.fuse) = false := by simpa using h2
      rw [e2]; rfl

theorem Agree.power (h : Agree m r) : Agree { m with down := isOff r } (powerR r) := ⟨h.files, h.gone, h.once, h.rising, h.room, h.acts, rfl, h.fused, h.left⟩

theorem Agree.did (h : Agree m r) (h0 : m.fuse ≠ 0) : Agree { m with acts := m.acts + 1, fuse := fuseLess m.fuse } (didR r) where
  files := h.files
  gone := h.gone
  once := h.once
  rising := h.rising
  room := h.room
  acts := by show m.acts + 1 = r.acts + 1; rw [h.acts]
  down := h.down
  fused := by
    show r.fused = decide (0 ≤ fuseLess m.fuse)
    rw [h.fused]
    unfold fuseLess
    split
    · have e1 : decide (0 ≤ m.fuse) = true := by simp; omega
      have e2 : decide (0 ≤ m.fuse - 1) = true := by simp; omega
      rw [e1, e2]
    · rfl
  left := by
    show (if r.fused = true then r.left - 1 else r.left) = max (fuseLess m.fuse) 0
    rw [h.fused, h.left]
    unfold fuseLess
    by_cases h1 : 0 < m.fuse
    · rw [if_pos h1, if_pos (by simp; omega)]
      omega
    · rw [if_neg h1, if_neg (by simp; omega)]

theorem Agree.fuse (h : Agree m r) (x : Int) : Agree { m with fuse := x } (fuseR r x) := ⟨h.files, h.gone, h.once, h.rising, h.room, h.acts, h.down, rfl, rfl⟩

/-- A file is put. -/
theorem Agree.put (h : Agree m r) {x : RF} (hx : x.there = true → ∀ f ∈ r.Gone, f.nm ≠ x.nm) : Agree { m with files := setF m.files x.nm (some (toF x)) } { r with L := putL r.L x } where
  files k := by
    by_cases e : k = x.nm
    · subst e
      show setF m.files x.nm _ x.nm = _
      rw [setF_same, find_putL_same]
      rfl
    · show setF m.files x.nm _ k = _
      rw [setF_other _ _ e, find_putL_other e]
      exact h.files k
  gone := h.gone
  once f hf g hg e := by
    rcases putL_mem g hg with rfl | hg
    · cases ht : g.there with
      | false => rfl
      | true => exact absurd e.symm (hx ht f hf)
    · exact h.once f hf g hg e
  rising := h.rising.put x
  room := h.room
  acts := h.acts
  down := h.down
  fused := h.fused
  left := h.left

theorem find_name {fs : List RF} {k : List UInt8} {f : RF} (h : fs.find? (fun f => f.nm == k) = some f) : f.nm = k ∧ f ∈ fs := ⟨by simpa using List.find?_some h, List.mem_of_find?_eq_some h⟩

theorem Agree.append (h : Agree m r) {sz used : Nat} (hsz : sz = r.L.length) (hus : used = usedL r.L) {s : ByteArray} {bs : List UInt8} {x : RF} (hx : Grown (fileR r s) bs x) :
    (appendM m sz used s.data.toList bs).2 = (appendR r s.data.toList bs.length x).2 ∧ Agree (appendM m sz used s.data.toList bs).1 (appendR r s.data.toList bs.length x).1 := by
  unfold appendM appendR
  rw [h.off]
  by_cases hd : isOff r = true
  · rw [if_pos hd, if_pos hd]
    have := h.power
    rw [hd] at this
    exact ⟨rfl, this⟩
  have hd' : isOff r = false := by simpa using hd
  have hp := h.power
  rw [hd'] at hp
  rw [if_neg hd, if_neg hd]
  by_cases hk : nameOk s.data.toList = false
  · rw [if_pos hk, if_pos hk]
    exact ⟨rfl, hp⟩
  rw [if_neg hk, if_neg hk]
  have hh : holdsI sz (m.files s.data.toList) bs.length = true ↔ ¬ tooR r s.data.toList bs.length := by
    rw [h.files, hsz]
    unfold holdsI tooR
    cases hf : r.L.find? (fun f => f.nm == s.data.toList) with
    | none => first | (simp; done) | (simp; omega)
    | some f => first | (simp [toF]; done) | (simp [toF]; omega)
  by_cases ht : tooR r s.data.toList bs.length
  · rw [if_pos (Bool.eq_false_iff.2 (fun e => (hh.1 e) ht)), if_pos ht]
    exact ⟨rfl, hp⟩
  rw [if_neg (by rw [hh.2 ht]; simp), if_neg ht]
  by_cases hu : r.room < (usedL r.L : Int) + (bs.length : Int)
  · rw [if_pos (by rw [h.room, hus]; exact hu), if_pos hu]
    exact ⟨rfl, hp⟩
  rw [if_neg (by rw [h.room, hus]; exact hu), if_neg hu]
  refine ⟨rfl, ?_⟩
  have h0 : m.fuse ≠ 0 := fun e => by
    have := h.off
    rw [hd', e] at this
    simp at this
  have hnm : x.nm = s.data.toList := by
    unfold RF.nm
    rw [hx.name]
    unfold fileR
    cases hf : r.L.find? (fun f => f.nm == s.data.toList) with
    | none => rfl
    | some f => exact (find_name hf).1
  have hto : toF x = ⟨((m.files s.data.toList).getD ⟨[], 0, true⟩).data ++ bs, ((m.files s.data.toList).getD ⟨[], 0, true⟩).synced, ((m.files s.data.toList).getD ⟨[], 0, true⟩).fresh⟩ := by
    unfold toF
    rw [hx.data, hx.done, hx.there, h.files]
    unfold fileR
    cases hf : r.L.find? (fun f => f.nm == s.data.toList) with
    | none => rfl
    | some f => rfl
  have hg : x.there = true → ∀ f ∈ r.Gone, f.nm ≠ x.nm := fun e f hf he => by
    rw [hx.there] at e
    unfold fileR at e
    cases hf2 : r.L.find? (fun f => f.nm == s.data.toList) with
    | none => rw [hf2] at e; cases e
    | some g =>
      rw [hf2] at e
      have h2 := h.once f hf g (find_name hf2).2 ((find_name hf2).1.trans (hnm.symm.trans he.symm))
      rw [show g.there = true from e] at h2
      cases h2
  have h1 := (hp.put (x := x) hg).did h0
  rw [hnm, hto] at h1
  exact h1
end

end Go.Proofs.Yteonkojfnmbpoaa
namespace Go.Proofs.Yteonkojfnmbpoaa
open Go.RowKit Go.Lib Go.Maps Go.ChangeMaps Go.Sort

section
variable {m : DevM} {r : RDm}

theorem Agree.fuse_ne (h : Agree m r) (hd : isOff r = false) : m.fuse ≠ 0 := fun e => by
  have := h.off
  rw [hd, e] at this
  simp at this

theorem Agree.del (h : Agree m r) {k : List UInt8} {f : RF} (hf : r.L.find? (fun f => f.nm == k) = some f) :
    Agree { m with files := setF m.files k none, gone := if (toF f).fresh then m.gone else setF m.gone k (some ((toF f).data.take (toF f).synced)) } { r with Gone := if f.there then r.Gone ++ [f] else r.Gone, L := withoutL r.L k } where
  files k' := by
    show setF m.files k none k' = ((withoutL r.L k).find? (fun f => f.nm == k')).map toF
    by_cases e : k' = k
    · subst e
      rw [setF_same, find_withoutL_same]
      rfl
    · rw [setF_other _ _ e, find_withoutL_other e]
      exact h.files k'
  gone k' := by
    obtain ⟨hk, hm⟩ := find_name hf
    show (if (toF f).fresh = true then m.gone else setF m.gone k (some ((toF f).data.take (toF f).synced))) k' = ((if f.there = true then r.Gone ++ [f] else r.Gone).find? (fun f => f.nm == k')).map (fun f => f.data.take f.done)
    cases ht : f.there with
    | false =>
      have e1 : (toF f).fresh = true := by simp [toF, ht]
      rw [if_pos e1, if_neg (by simp)]
      exact h.gone k'
    | true =>
      have e1 : ¬ (toF f).fresh = true := by simp [toF, ht]
      rw [if_neg e1, if_pos rfl, List.find?_append]
      by_cases e : k' = k
      · subst e
        have hno : r.Gone.find? (fun f => f.nm == k') = none := by
          rw [List.find?_eq_none]
          intro g hg e2
          have e3 : g.nm = k' := by simpa using e2
          have := h.once g hg f hm (hk.trans e3.symm)
          rw [ht] at this
          cases this
        rw [setF_same, hno]
        simp [hk, toF]
      · have hne : (f.nm == k') = false := beq_eq_false_iff_ne.2 (fun e2 => e (by rw [← e2]; exact hk))
        rw [setF_other _ _ e, h.gone k']
        simp [hne]
  once g hg g' hg' e := by
    obtain ⟨h1, h2⟩ := List.mem_filter.1 hg'
    have hne : g'.nm ≠ k := by simpa using h2
    have hold : g ∈ r.Gone ∨ g = f := by
      cases ht : f.there with
      | false => dsimp only at hg; rw [ht, if_neg (by simp)] at hg; exact Or.inl hg
      | true =>
        dsimp only at hg
        rw [ht, if_pos rfl] at hg
        rcases List.mem_append.1 hg with h3 | h3
        · exact Or.inl h3
        · exact Or.inr (by simpa using h3)
    rcases hold with h3 | h3
    · exact h.once g h3 g' h1 e
    · subst h3
      exact absurd (e.trans (find_name hf).1) hne
  rising := h.rising.without k
  room := h.room
  acts := h.acts
  down := h.down
  fused := h.fused
  left := h.left

theorem Agree.remove (h : Agree m r) (k : List UInt8) : (removeM m k).2 = (removeR r k).2 ∧ Agree (removeM m k).1 (removeR r k).1 := by
  unfold removeM removeR
  rw [h.off]
  by_cases hd : isOff r = true
  · rw [if_pos hd, if_pos hd]
    have := h.power
    rw [hd] at this
    exact ⟨rfl, this⟩
  have hd' : isOff r = false := by simpa using hd
  have hp := h.power
  rw [hd'] at hp
  rw [if_neg hd, if_neg hd]
  by_cases hk : nameOk k = false
  · rw [if_pos hk, if_pos hk]
    exact ⟨rfl, hp⟩
  rw [if_neg hk, if_neg hk]
  have hf := h.files k
  cases hfr : r.L.find? (fun f => f.nm == k) with
  | none =>
    rw [hfr] at hf
    have hf' : m.files k = none := hf
    rw [hf']
    exact ⟨rfl, hp⟩
  | some f =>
    rw [hfr] at hf
    have hf' : m.files k = some (toF f) := hf
    rw [hf']
    exact ⟨rfl, (hp.del (k := k) (f := f) hfr).did (h.fuse_ne hd')⟩

theorem Agree.settle (h : Agree m r) : Agree (settleM m) { r with L := r.L.map syncF, Gone := [] } where
  files k := by
    show (m.files k).map settleF = ((r.L.map syncF).find? (fun f => f.nm == k)).map toF
    rw [find_sync, h.files k]
    cases r.L.find? (fun f => f.nm == k) <;> rfl
  gone k := rfl
  once f hf := by cases hf
  rising := h.rising.sync
  room := h.room
  acts := h.acts
  down := h.down
  fused := h.fused
  left := h.left

theorem Agree.sync (h : Agree m r) : (syncM m).2 = (syncR r).2 ∧ Agree (syncM m).1 (syncR r).1 := by
  unfold syncM syncR
  rw [h.off]
  by_cases hd : isOff r = true
  · rw [if_pos hd, if_pos hd]
    have := h.power
    rw [hd] at this
    exact ⟨rfl, this⟩
  have hd' : isOff r = false := by simpa using hd
  have hp := h.power
  rw [hd'] at hp
  rw [if_neg hd, if_neg hd]
  exact ⟨rfl, hp.settle.did (h.fuse_ne hd')⟩

theorem Agree.read (h : Agree m r) (k : List UInt8) : readM m k = readR r k := by
  unfold readM readR
  rw [h.down, h.files k]
  cases r.L.find? (fun f => f.nm == k) <;> rfl

theorem Agree.new (room : Int) : Agree (newM room) (newR room) := ⟨fun _ => rfl, fun _ => rfl, (fun f hf => by cases hf), List.Pairwise.nil, rfl, rfl, rfl, rfl, rfl⟩
end

end Go.Proofs.Yteonkojfnmbpoaa
namespace Go.Proofs.Yteonkojfnmbpoaa
open Go.RowKit Go.Lib Go.Maps Go.ChangeMaps Go.Sort

theorem Rising.nodup {fs : List RF} (h : Rising fs) : (fs.map RF.nm).Nodup := by
  rw [List.nodup_iff_pairwise_ne, List.pairwise_map]
  exact h.imp (fun {a b} hab e => by rw [e] at hab; exact List.lt_irrefl _ hab)

theorem Rising.find {fs : List RF} (h : Rising fs) {f : RF} (hf : f ∈ fs) : fs.find? (fun g => g.nm == f.nm) = some f := by
  cases hg : fs.find? (fun g => g.nm == f.nm) with
  | none =>
    rw [List.find?_eq_none] at hg
    exact absurd (beq_self_eq_true f.nm) (hg f hf)
  | some g =>
    obtain ⟨h1, h2⟩ := find_name hg
    obtain ⟨i, hi, rfl⟩ := List.mem_iff_getElem.1 hf
    obtain ⟨j, hj, rfl⟩ := List.mem_iff_getElem.1 h2
    have hp := List.pairwise_iff_getElem.1 h
    rcases Nat.lt_trichotomy i j with e | e | e
    · have h3 := hp i j hi hj e
      rw [h1] at h3
      exact absurd h3 (List.lt_irrefl _)
    · subst e; rfl
    · have h3 := hp j i hj hi e
      rw [h1] at h3
      exact absurd h3 (List.lt_irrefl _)

section
variable {S : Prop} {w : World} {own : Owner} {db fb rb : Nat} {D E : DataW Unit} {n : Nat} {m : DevM} {r : RDm}

theorem Agree.mem (ha : Agree m r) (k : List UInt8) : (m.files k).isSome = true ↔ k ∈ r.L.map RF.nm := by
  rw [ha.files k, List.mem_map]
  constructor
  · intro h
    cases hf : r.L.find? (fun f => f.nm == k) with
    | none => rw [hf] at h; cases h
    | some f => exact ⟨f, (find_name hf).2, (find_name hf).1⟩
  · rintro ⟨f, hf, rfl⟩
    rw [ha.rising.find hf]
    rfl

theorem Agree.count (ha : Agree m r) (h : Dev S w own db fb rb D E n m) (hl : ∀ f ∈ r.L, f.data.length ≤ 262144) : Maps.size D = r.L.length ∧ usedD D m.files = usedL r.L ∧ (strKeys D).Perm (r.L.map RF.nm) := by
  obtain ⟨h1, h2⟩ := h.size_of (r.L.map RF.nm) ha.rising.nodup ha.mem
  obtain ⟨h3, h4⟩ := h.keys
  refine ⟨by rw [h1, List.length_map], ?_, (List.perm_ext_iff_of_nodup h3 ha.rising.nodup).2 fun k => by rw [h4 k]; exact ha.mem k⟩
  rw [h2, List.map_map]
  unfold usedL
  congr 1
  refine List.map_congr_left fun f hf => ?_
  show flen m.files (.string f.nm) = _
  unfold flen
  dsimp only
  rw [ha.files, ha.rising.find hf]
  exact Nat.min_eq_left (hl f hf)

/-- All names, as they rise. -/
theorem Agree.names (ha : Agree m r) (h : Dev S w own db fb rb D E n m) (hl : ∀ f ∈ r.L, f.data.length ≤ 262144) {ss : List (List UInt8)} (hp : ss.Perm (strKeys D)) : ss.mergeSort (fun x y => decide (x ≤ y)) = r.L.map RF.nm := by
  have hp2 := (hp.trans (ha.count h hl).2.2)
  have h1 : (ss.mergeSort (fun x y => decide (x ≤ y))).Pairwise (fun x y => x ≤ y) := by
    have h2 := List.pairwise_mergeSort (le := fun x y : List UInt8 => decide (x ≤ y)) (fun a b c h3 h4 => by simp at h3 h4 ⊢; exact List.le_trans h3 h4) (fun a b => by simpa using List.le_total a b) ss
    exact h2.imp (fun {a b} h5 => by simpa using h5)
  have h2 : (r.L.map RF.nm).Pairwise (fun x y => x ≤ y) := by
    rw [List.pairwise_map]
    exact ha.rising.imp (fun {a b} h3 => List.le_of_lt h3)
  exact List.Perm.eq_of_pairwise (fun a b _ _ h3 h4 => List.le_antisymm h3 h4) h1 h2 ((List.mergeSort_perm ss _).trans hp2)
end

end Go.Proofs.Yteonkojfnmbpoaa
namespace Go.Proofs.Yteonkojfnmbpoaa
open Go.RowKit Go.Lib Go.Maps Go.ChangeMaps Go.Sort

/-- What Great leaves, with the ops' bytes. -/
def Great2Post (w : World) (os : List OpV) (e : Ending) (w' : World) : Prop := ∃ g, e = .returned (.bool g) ∧ (g = false → os.length ≤ 300 ∧ ∀ o ∈ os, o.bs.length ≤ 20000 ∧ o.ks.length ≤ 20000) ∧ Below w.heap.size w w'

set_option maxHeartbeats 2000000 in
set_option maxRecDepth 100000 in
theorem great2_calls (a : Option Addr) (c : Nat) (os : List OpV) (w : World) (hos : ORow w a os) (hl : os.length ≤ maxLen) :
    Calls Try.prog 5 #[.slice a os.length c] w (Great2Post w os) := by
  have Hos := Lib.hid hos
  obtain ⟨l, hll⟩ : ∃ l, os.length = l := ⟨_, rfl⟩
  rw [hll] at hl ⊢
  have Hl := Lib.hid hll
  unfold maxLen at hl
  clear hos hll
  go_enter Try.func5, Try.ntmps5
  go_wp2_with fail
  go_loopw [3, 4] (fun n i wr => ∃ (k : Nat) (x : Int), k ≤ l ∧ i = .int .i64 k ∧ n = .int .i64 x ∧ Hid (Below w.heap.size w wr) ∧ 0 ≤ x ∧ x ≤ 9223372036854775807 ∧ Hid (∀ j o, j < k → os[j]? = some o → ((min o.bs.length 20000 : Nat) : Int) ≤ x ∧ ((min o.ks.length 20000 : Nat) : Int) ≤ x)) (fun _ i _ => l - (intOf i).toNat)
  case atStart => exact ⟨0, l, Nat.zero_le _, rfl, rfl, Below.refl _ _, by omega, by omega, fun j o hj => absurd hj (Nat.not_lt_zero j)⟩
  case round =>
    obtain ⟨k, x, hk, rfl, rfl, Hb, hx0, hx1, HA⟩ := hrel
    by_cases hgo : k < l ∧ x < 20000
    · obtain ⟨hlt, hx⟩ := hgo
      obtain ⟨o, ho⟩ : ∃ o, os[k]? = some o := ⟨_, List.getElem?_eq_getElem (by rw [Hl.out]; exact hlt)⟩
      obtain ⟨what, name, ba, bc, bs, on, ka, kc, ks⟩ := o
      have HO := Lib.hid ho
      obtain ⟨A, rfl, hat0⟩ := Hos.out k _ ho
      have hat := hat0.below Hb.out
      have c1 := hat.c1
      have c2 := hat.c2
      dsimp only at c1 c2
      have hd : decide (x < 20000) = true := by simpa using hx
      have Hat := Lib.hid hat
      unfold fld at c1 c2
      clear ho hat0 hat
      have hk0 : (0 : Int) ≤ (k : Int) := by omega
      have hk1 : (k : Int) < (l : Int) := by omega
      go_wp2_with fail
      go_quiet (fail)
      have Hb1 : Hid (Below w.heap.size w (wr.drewN nq)) := below_drewN Hb.out _
      have hatq := Hat.out.below (below_drewN (Below.refl _ wr) nq)
      have c4q := hatq.c4
      unfold fld at c4q
      dsimp only at c4q
      have HK := Lib.hid hatq.hk
      have hkl := hatq.hkl
      unfold maxLen at hkl
      dsimp only at hkl HK
      obtain ⟨lk, hlk⟩ : ∃ lk, ks.length = lk := ⟨_, rfl⟩
      rw [hlk] at c4q hkl HK
      have Hlk := Lib.hid hlk
      clear hatq c1 c2 hlk
      go_wp2_with fail
      go_loop [3, 5] (fun n i => ∃ (q : Nat) (y : Int), q ≤ lk ∧ i = .int .i64 q ∧ n = .int .i64 y ∧ x + ((min bs.length 20000 : Nat) : Int) ≤ y ∧ (q : Int) ≤ y ∧ y ≤ 200000) (fun _ i => lk - (intOf i).toNat)
      case atStart =>
        exact ⟨0, x + ((min name.size 20000 : Nat) : Int) + ((min bs.length 20000 : Nat) : Int), Nat.zero_le _, rfl, by go_num, by omega, by omega, by omega⟩
      case round =>
        obtain ⟨q, y, hq, rfl, rfl, hy0, hyq, hy1⟩ := hrel
        by_cases hgo2 : q < lk ∧ y < 20000
        · obtain ⟨hlt2, hy⟩ := hgo2
          obtain ⟨KA, rfl, hks⟩ : ∃ KA, ka = some KA ∧ KRow (wr.drewN nq) KA ks := by
            rcases HK.out with ⟨_, e⟩ | ⟨KA, kc', e, _, h⟩
            · rw [e] at Hlk
              have := Hlk.out
              simp at this
              omega
            · injection e with e1 e2 e3
              exact ⟨KA, e1, h⟩
          obtain ⟨⟨s, v⟩, hqs⟩ : ∃ z, ks[q]? = some z := ⟨_, List.getElem?_eq_getElem (by rw [Hlk.out]; exact hlt2)⟩
          have g0 := (hks q s v hqs).1
          have hdy : decide (y < 20000) = true := by simpa using hy
          clear hqs hks
          go_wp2
          go_round
          case rel => exact ⟨q + 1, y + 1 + min (s.size : Int) 20000, by omega, by go_num, rfl, by omega, by omega, by omega⟩
          case measure => simp [intOf]; omega
        · by_cases hlt2 : q < lk
          · have hdy : decide (y < 20000) = false := by simp; omega
            go_wp2
            go_roundw
            case rel =>
              refine ⟨k + 1, y, by omega, by go_num, rfl, Hb1, by omega, by omega, fun j o hj hjo => ?_⟩
              rcases Nat.lt_succ_iff_lt_or_eq.1 hj with h1 | h1
              · have := HA.out j o h1 hjo
                omega
              · subst h1
                rw [HO.out] at hjo
                injection hjo with hjo
                subst hjo
                dsimp only
                have h9 := Hlk.out
                omega
            case measure => simp [intOf]; omega
          · go_wp2
            go_roundw
            case rel =>
              refine ⟨k + 1, y, by omega, by go_num, rfl, Hb1, by omega, by omega, fun j o hj hjo => ?_⟩
              rcases Nat.lt_succ_iff_lt_or_eq.1 hj with h1 | h1
              · have := HA.out j o h1 hjo
                omega
              · subst h1
                rw [HO.out] at hjo
                injection hjo with hjo
                subst hjo
                dsimp only
                have h9 := Hlk.out
                omega
            case measure => simp [intOf]; omega
    · by_cases hbig : 20000 ≤ x
      · have hd2 : decide (x < 20000) = false := by simp; omega
        have hd3 : decide ((20000 : Int) ≤ x) = true := by simpa using hbig
        by_cases hlt : k < l
        all_goals
          go_wp2
          go_ret
          exact ⟨true, rfl, fun h => Bool.noConfusion h, Hb.out⟩
      · have hd3 : decide ((20000 : Int) ≤ x) = false := by simp; omega
        by_cases h300 : 300 < l
        · have hd4 : decide ((300 : Int) < (l : Int)) = true := by simp; omega
          go_wp2
          go_ret
          exact ⟨true, rfl, fun h => Bool.noConfusion h, Hb.out⟩
        · have hd4 : decide ((300 : Int) < (l : Int)) = false := by simp; omega
          go_wp2
          go_ret
          exact ⟨false, rfl, fun _ => ⟨by rw [Hl.out]; omega, fun o ho => by
            obtain ⟨j, hj, rfl⟩ := List.mem_iff_getElem.1 ho
            have h1 := HA.out j _ (by have := Hl.out; omega) (List.getElem?_eq_getElem hj)
            omega⟩, Hb.out⟩

end Go.Proofs.Yteonkojfnmbpoaa
namespace Go.Proofs.Yteonkojfnmbpoaa
open Go.RowKit Go.Lib Go.Maps Go.ChangeMaps Go.Sort

/-- No name was removed twice. -/
def OnceGone (r : RDm) : Prop := r.Gone.Pairwise (fun a b => a.nm ≠ b.nm)

/-- What is left of a file. -/
def keepF (ks : List (ByteArray × Int)) (f : RF) : Option FileM := (crashF ks f.nm (toF f)).map settleF
/-- What comes back. -/
def backF (f : RF) : FileM := ⟨f.data.take f.done, (f.data.take f.done).length, false⟩

/-- The files behind a crash. -/
structure Crashed (ks : List (ByteArray × Int)) (r : RDm) (L' : List RF) : Prop where
  rising : Rising L'
  files : ∀ k, (L'.find? (fun f => f.nm == k)).map toF = match r.Gone.find? (fun f => f.nm == k) with | some g => some (backF g) | none => (r.L.find? (fun f => f.nm == k)).bind (keepF ks)

/-- Behind a crash. -/
def crashR (r : RDm) (L' : List RF) : RDm := { r with L := L', Gone := [], fused := false, left := 0, off := false }

section
variable {m : DevM} {r : RDm}

theorem Agree.crash (h : Agree m r) {ks : List (ByteArray × Int)} {L' : List RF} (hc : Crashed ks r L') : Agree (crashM ks m) (crashR r L') where
  files k := by
    show (crashFiles ks m k).map settleF = (L'.find? (fun f => f.nm == k)).map toF
    rw [hc.files k]
    unfold crashFiles
    rw [h.gone k]
    cases hg : r.Gone.find? (fun f => f.nm == k) with
    | some g => rfl
    | none =>
      show ((m.files k).bind (crashF ks k)).map settleF = (r.L.find? (fun f => f.nm == k)).bind (keepF ks)
      rw [h.files k]
      cases hf : r.L.find? (fun f => f.nm == k) with
      | none => rfl
      | some f =>
        have hk := (find_name hf).1
        show (crashF ks k (toF f)).map settleF = (crashF ks f.nm (toF f)).map settleF
        rw [hk]
  gone k := rfl
  once f hf := by cases hf
  rising := hc.rising
  room := h.room
  acts := h.acts
  down := rfl
  fused := rfl
  left := rfl

theorem OnceGone.remove (h : Agree m r) (ho : OnceGone r) (k : List UInt8) : OnceGone (removeR r k).1 := by
  unfold removeR
  split
  · exact ho
  split
  · exact ho
  cases hf : r.L.find? (fun f => f.nm == k) with
  | none => exact ho
  | some f =>
    obtain ⟨hk, hm⟩ := find_name hf
    show (if f.there = true then r.Gone ++ [f] else r.Gone).Pairwise (fun a b => a.nm ≠ b.nm)
    cases ht : f.there with
    | false => rw [if_neg (by simp)]; exact ho
    | true =>
      rw [if_pos rfl, List.pairwise_append]
      refine ⟨ho, List.pairwise_singleton _ _, fun a ha b hb e => ?_⟩
      obtain rfl : b = f := by simpa using hb
      have := h.once a ha b hm e.symm
      rw [ht] at this
      cases this
theorem OnceGone.append (ho : OnceGone r) (nm : List UInt8) (bl : Nat) (x : RF) : OnceGone (appendR r nm bl x).1 := by
  unfold appendR
  repeat' split
  all_goals exact ho
theorem OnceGone.sync (ho : OnceGone r) : OnceGone (syncR r).1 := by
  unfold syncR
  split
  · exact ho
  · exact List.Pairwise.nil
theorem OnceGone.fuse (ho : OnceGone r) (x : Int) : OnceGone (fuseR r x) := ho
theorem OnceGone.crash (r : RDm) (L' : List RF) : OnceGone (crashR r L') := List.Pairwise.nil
theorem OnceGone.new (room : Int) : OnceGone (newR room) := List.Pairwise.nil
end

end Go.Proofs.Yteonkojfnmbpoaa
namespace Go.Proofs.Yteonkojfnmbpoaa
open Go.RowKit Go.Lib Go.Maps Go.ChangeMaps Go.Sort

theorem BArg.upto {w : World} {own : Owner} {a : Option Addr} {c : Nat} {bs : List UInt8} (h : BArg w own (.slice a bs.length c) bs) (hc : bs.length ≤ c) {m : Nat} (hm : m ≤ bs.length) (hl : bs.length ≤ 262144) :
    (∀ W : World, (Instr.slice 31 (.slice a bs.length c) none (some (.int .i64 m)) none).run Try.prog W = .ok (.slice a m c) W) ∧ BArg w own (.slice a m c) (bs.take m) := by
  have hlen : (bs.take m).length = m := by rw [List.length_take]; omega
  refine ⟨fun W => ?_, ?_⟩
  · have hz : (sizeOf 5).run Try.prog W = .ok 1 W := by kernel_rfl
    rw [run_slice_h (P := Try.prog) W 31 a bs.length c (by kernel_rfl) .i64 (m : Int) (by omega) (by omega)]
    have he : Try.prog.elem 31 = 5 := by kernel_rfl
    rw [he, hz]
    cases a <;> simp [Result.andThen, sliced, Addr.add]
  · rcases h with ⟨h1, rfl⟩ | ⟨A, c', h1, h2, h3⟩
    · injection h1 with e1 e2 e3
      subst e1
      subst e3
      obtain rfl : m = 0 := by simpa using hm
      exact Or.inl ⟨rfl, rfl⟩
    · injection h1 with e1 e2 e3
      subst e1
      subst e3
      refine Or.inr ⟨A, c, by rw [hlen], fun hne => h2 (fun e => hne (by rw [e]; simp)), fun j x hx => ?_⟩
      rw [List.getElem?_take] at hx
      split at hx
      · exact h3 j x hx
      · cases hx

/-- What the first of the two loops has made. -/
structure Kept1 (ks : List (ByteArray × Int)) (L l' : List RF) : Prop where
  rising : Rising l'
  files : ∀ k, (l'.find? (fun f => f.nm == k)).map toF = (L.find? (fun f => f.nm == k)).bind (keepF ks)
  len : l'.length ≤ L.length

theorem find_take_next {fs : List RF} (hr : Rising fs) {i : Nat} {f : RF} (hf : fs[i]? = some f) (k : List UInt8) :
    (fs.take (i + 1)).find? (fun f => f.nm == k) = if k = f.nm then some f else (fs.take i).find? (fun f => f.nm == k) := by
  rw [List.take_add_one, hf, List.find?_append]
  by_cases e : k = f.nm
  · subst e
    have hno : (fs.take i).find? (fun g => g.nm == f.nm) = none := by
      rw [List.find?_eq_none]
      intro g hg e2
      have e3 : g.nm = f.nm := by simpa using e2
      obtain ⟨j, hj, rfl⟩ := List.mem_iff_getElem.1 hg
      obtain ⟨hi, rfl⟩ := List.getElem?_eq_some_iff.1 hf
      have hj2 : j < i := by rw [List.length_take] at hj; omega
      have h1 := List.pairwise_iff_getElem.1 hr j i (by omega) hi hj2
      rw [List.getElem_take] at e3
      rw [e3] at h1
      exact List.lt_irrefl _ h1
    rw [hno, if_pos rfl]
    simp
  · have hne : (f.nm == k) = false := beq_eq_false_iff_ne.2 (fun e2 => e e2.symm)
    rw [if_neg e]
    simp [hne]

theorem Kept1.nil (ks : List (ByteArray × Int)) : Kept1 ks [] [] := ⟨List.Pairwise.nil, fun _ => rfl, Nat.le_refl _⟩

theorem Kept1.skip {ks : List (ByteArray × Int)} {fs l' : List RF} {i : Nat} {f : RF} (h : Kept1 ks (fs.take i) l') (hr : Rising fs) (hf : fs[i]? = some f) (hk : keepF ks f = none) : Kept1 ks (fs.take (i + 1)) l' where
  rising := h.rising
  files k := by
    rw [find_take_next hr hf, h.files k]
    by_cases e : k = f.nm
    · subst e
      rw [if_pos rfl]
      have hno : (fs.take i).find? (fun g => g.nm == f.nm) = none := by
        rw [List.find?_eq_none]
        intro g hg e2
        have e3 : g.nm = f.nm := by simpa using e2
        obtain ⟨j, hj, rfl⟩ := List.mem_iff_getElem.1 hg
        obtain ⟨hi, rfl⟩ := List.getElem?_eq_some_iff.1 hf
        have hj2 : j < i := by rw [List.length_take] at hj; omega
        have h1 := List.pairwise_iff_getElem.1 hr j i (by omega) hi hj2
        rw [List.getElem_take] at e3
        rw [e3] at h1
        exact List.lt_irrefl _ h1
      rw [hno]
      exact hk.symm
    · rw [if_neg e]
  len := by
    have := h.len
    rw [List.length_take] at this ⊢
    omega

theorem Kept1.keep {ks : List (ByteArray × Int)} {fs l' : List RF} {i : Nat} {f x : RF} (h : Kept1 ks (fs.take i) l') (hr : Rising fs) (hf : fs[i]? = some f) (hn : x.nm = f.nm) (hx : keepF ks f = some (toF x)) : Kept1 ks (fs.take (i + 1)) (putL l' x) where
  rising := h.rising.put x
  files k := by
    rw [find_take_next hr hf]
    by_cases e : k = f.nm
    · rw [if_pos e]
      have e2 : k = x.nm := e.trans hn.symm
      subst e2
      rw [find_putL_same]
      exact hx.symm
    · rw [if_neg e, find_putL_other (by rw [hn]; exact e)]
      exact h.files k
  len := by
    have h1 := h.len
    have h2 := putL_len l' x
    have h3 := (List.getElem?_eq_some_iff.1 hf).1
    rw [List.length_take] at h1 ⊢
    omega

end Go.Proofs.Yteonkojfnmbpoaa
namespace Go.Proofs.Yteonkojfnmbpoaa
open Go.RowKit Go.Lib Go.Maps Go.ChangeMaps Go.Sort

/-- What the second of the two loops has made. -/
structure Kept2 (l1 gs l' : List RF) : Prop where
  rising : Rising l'
  files : ∀ k, (l'.find? (fun f => f.nm == k)).map toF = match gs.find? (fun f => f.nm == k) with | some g => some (backF g) | none => (l1.find? (fun f => f.nm == k)).map toF
  len : l'.length ≤ l1.length + gs.length

theorem Kept2.nil {l1 : List RF} (h : Rising l1) : Kept2 l1 [] l1 := ⟨h, fun _ => rfl, Nat.le_refl _⟩

theorem find_take_once {fs : List RF} (hr : fs.Pairwise (fun a b => a.nm ≠ b.nm)) {i : Nat} {f : RF} (hf : fs[i]? = some f) (k : List UInt8) :
    (fs.take (i + 1)).find? (fun f => f.nm == k) = if k = f.nm then some f else (fs.take i).find? (fun f => f.nm == k) := by
  rw [List.take_add_one, hf, List.find?_append]
  by_cases e : k = f.nm
  · subst e
    have hno : (fs.take i).find? (fun g => g.nm == f.nm) = none := by
      rw [List.find?_eq_none]
      intro g hg e2
      have e3 : g.nm = f.nm := by simpa using e2
      obtain ⟨j, hj, rfl⟩ := List.mem_iff_getElem.1 hg
      obtain ⟨hi, rfl⟩ := List.getElem?_eq_some_iff.1 hf
      have hj2 : j < i := by rw [List.length_take] at hj; omega
      have h1 := List.pairwise_iff_getElem.1 hr j i (by omega) hi hj2
      rw [List.getElem_take] at e3
      exact h1 e3
    rw [hno, if_pos rfl]
    simp
  · have hne : (f.nm == k) = false := beq_eq_false_iff_ne.2 (fun e2 => e e2.symm)
    rw [if_neg e]
    simp [hne]

theorem Kept2.next {l1 fs l' : List RF} {i : Nat} {g x : RF} (h : Kept2 l1 (fs.take i) l') (hr : fs.Pairwise (fun a b => a.nm ≠ b.nm)) (hg : fs[i]? = some g) (hn : x.nm = g.nm) (hx : toF x = backF g) : Kept2 l1 (fs.take (i + 1)) (putL l' x) where
  rising := h.rising.put x
  files k := by
    rw [find_take_once hr hg]
    by_cases e : k = g.nm
    · rw [if_pos e]
      have e2 : k = x.nm := e.trans hn.symm
      subst e2
      rw [find_putL_same]
      show some (toF x) = some (backF g)
      rw [hx]
    · rw [if_neg e, find_putL_other (by rw [hn]; exact e)]
      exact h.files k
  len := by
    have h1 := h.len
    have h2 := putL_len l' x
    have h3 := (List.getElem?_eq_some_iff.1 hg).1
    rw [List.length_take] at h1 ⊢
    omega

/-- Both loops. -/
theorem Kept2.crashed {ks : List (ByteArray × Int)} {r : RDm} {l1 l' : List RF} (h1 : Kept1 ks r.L l1) (h2 : Kept2 l1 r.Gone l') : Crashed ks r l' ∧ l'.length ≤ r.L.length + r.Gone.length := by
  refine ⟨⟨h2.rising, fun k => ?_⟩, Nat.le_trans h2.len (Nat.add_le_add_right h1.len _)⟩
  rw [h2.files k]
  cases r.Gone.find? (fun f => f.nm == k) with
  | some g => rfl
  | none => exact h1.files k

/-- What a file of the document's is when it is cut, against what the program's is. -/
theorem keepF_none {ks : List (ByteArray × Int)} {f : RF} (ht : f.there = false) (hm : manyK ks f.nm < 0) : keepF ks f = none := by
  unfold keepF crashF
  rw [if_pos ⟨by simp [toF, ht], hm⟩]
  rfl
theorem keepF_some {ks : List (ByteArray × Int)} {f : RF} (h : ¬ (f.there = false ∧ manyK ks f.nm < 0)) : keepF ks f = some ⟨f.data.take (cutK ks f.nm (toF f)), (f.data.take (cutK ks f.nm (toF f))).length, false⟩ := by
  unfold keepF crashF
  rw [if_neg (fun e => h ⟨by simpa [toF] using e.1, e.2⟩)]
  rfl

end Go.Proofs.Yteonkojfnmbpoaa
namespace Go.Proofs.Yteonkojfnmbpoaa
open Go.RowKit Go.Lib Go.Maps Go.ChangeMaps Go.Sort

theorem FGood.none {w : World} {own : Owner} {f : RF} (h : FGood w own f) : FGood w (fun _ => Option.none) f := ⟨h.hname, by
  rcases h.hb with h1 | ⟨A, c, h1, _, h3⟩
  · exact Or.inl h1
  · exact Or.inr ⟨A, c, h1, fun _ => rfl, h3⟩, h.hcap, h.hl, h.hdone⟩

/-- What a round of the second loop makes ahead of its bytes' copy, and what stands there behind it. -/
theorem rcrash_new (wr : World) (f : RF) :
    ((wr.alloc (.cells #[.string f.name, .slice f.da f.data.length f.dc, .int .i64 f.done, .bool f.there] 68)).alloc (.cells #[] 5)).ownsRow (wr.heap.size + 1) 5 1 (.slice (some ⟨wr.heap.size + 1, 0, none⟩) 0 0) 0 [] ∧
    Below wr.heap.size wr ((wr.alloc (.cells #[.string f.name, .slice f.da f.data.length f.dc, .int .i64 f.done, .bool f.there] 68)).alloc (.cells #[] 5)) ∧
    ∀ w3, ((wr.alloc (.cells #[.string f.name, .slice f.da f.data.length f.dc, .int .i64 f.done, .bool f.there] 68)).alloc (.cells #[] 5)).grownBy w3 (Value.slice (some ⟨wr.heap.size + 1, 0, none⟩) 0 0).ownBlock →
      Below wr.heap.size wr w3 ∧ w3.heap[wr.heap.size]? = some (.cells #[.string f.name, .slice f.da f.data.length f.dc, .int .i64 f.done, .bool f.there] 68 (0, 0)) := by
  have h0 : (wr.alloc (.cells #[.string f.name, .slice f.da f.data.length f.dc, .int .i64 f.done, .bool f.there] 68)).heap.size = wr.heap.size + 1 := by simp
  have h1 := hown_empty (wr.alloc (.cells #[.string f.name, .slice f.da f.data.length f.dc, .int .i64 f.done, .bool f.there] 68))
  have h2 := (Below.refl wr.heap.size wr).alloc (Nat.le_refl _) (.cells #[.string f.name, .slice f.da f.data.length f.dc, .int .i64 f.done, .bool f.there] 68)
  have h3 := (Below.refl (wr.heap.size + 1) (wr.alloc (.cells #[.string f.name, .slice f.da f.data.length f.dc, .int .i64 f.done, .bool f.there] 68))).alloc (by rw [h0]; exact Nat.le_refl _) (.cells #[] 5)
  have hX : (wr.alloc (.cells #[.string f.name, .slice f.da f.data.length f.dc, .int .i64 f.done, .bool f.there] 68)).heap[wr.heap.size]? = some (.cells #[.string f.name, .slice f.da f.data.length f.dc, .int .i64 f.done, .bool f.there] 68 (0, 0)) := heap_alloc_new wr _
  rw [h0] at h1
  refine ⟨h1, h2.trans (h3.mono (Nat.le_succ _)), fun w3 hg => ?_⟩
  have h4 := h3.grown hg (by simp) (fun k hk => by simp [Value.ownBlock] at hk; omega)
  exact ⟨h2.trans (h4.mono (Nat.le_succ _)), (h4.block _ (by omega)).trans hX⟩

section
variable {w w' : World} {d o : Owner} {rb n lc : Nat} {la : Option Addr} {gv : Value} {r : RDm}

set_option maxHeartbeats 8000000 in
set_option maxRecDepth 100000 in
theorem RDev.crash (h : RDev w d o rb la lc gv n r) (hn : n ≤ 100000) (hri : Rising r.L) (hon : OnceGone r) {ka : Option Addr} {kc : Nat} {ks : List (ByteArray × Int)} (hk : KArg w (both d o) (.slice ka ks.length kc) ks) (hkl : ks.length ≤ 1000000000000) :
    Calls Try.prog 20 #[.pointer (some ⟨rb, 0, none⟩), .slice ka ks.length kc] w fun e w' => e = .returned (.tuple #[]) ∧ ∃ L' o', Crashed ks r L' ∧ RD w' d o' rb n (crashR r L') ∧ RStep o o' w w' := by
  have H0 := Lib.hid h
  have H : Hid (FRow w (both d o) la r.L) := h.rowL
  have hcnt := h.cnt
  have HM : Hid (∀ W, Below w.heap.size w W → ∀ name, Calls Try.prog 43 #[.slice ka ks.length kc, .string name] W fun e w' => e = .returned (.tuple #[.int .i64 (max (manyK ks name.data.toList) 0), .bool (decide (0 ≤ manyK ks name.data.toList))]) ∧ Below W.heap.size W w') := fun W hW name => rmany_calls (hk.step (below_step _ hW)) hkl name
  have b0 := h.c0
  obtain ⟨l, hll⟩ : ∃ l, r.L.length = l := ⟨_, rfl⟩
  rw [hll] at hcnt b0
  have Hl := Lib.hid hll
  have B0 := Lib.hid b0
  have HR := Lib.hid hri
  have H1 : Hid (r.Gone.Pairwise (fun a b => a.nm ≠ b.nm)) := hon
  obtain ⟨q, hq⟩ : ∃ q, ks.length = q := ⟨_, rfl⟩
  rw [hq] at HM ⊢
  clear h hk hll b0 hri hq hkl hon
  go_enter Try.func20, Try.ntmps20
  go_wp2_with fail
  go_loopw [4, 5] (fun v i wr => ∃ (k : Nat) (a' : Option Addr) (c' : Nat) (l' : List RF), k ≤ l ∧ i = .int .i64 k ∧ v = .slice a' l'.length c' ∧ Hid (FRow wr (both d o) a' l') ∧ Hid (Kept1 ks (r.L.take k) l') ∧ Hid (Below w.heap.size w wr)) (fun _ i _ => l - (intOf i).toNat)
  case atStart => exact ⟨0, none, 0, [], Nat.zero_le _, rfl, rfl, fun j f hj => by simp at hj, Kept1.nil ks, Below.refl _ _⟩
  case round =>
    obtain ⟨k, a', c', l', hk, rfl, rfl, HF, HK, Hb⟩ := hrel
    have b0 := (Hb.out.cell (p := ⟨rb, 0, none⟩) (World.block_lt_of_cell? _ _ B0.out)).trans B0.out
    by_cases hlt : k < l
    · obtain ⟨f, hf⟩ : ∃ f, r.L[k]? = some f := ⟨_, List.getElem?_eq_getElem (by rw [Hl.out]; exact hlt)⟩
      have Hf := Lib.hid hf
      obtain ⟨A, rfl, _, hat⟩ := (H.out.below Hb.out) k f hf
      have HG := Lib.hid hat.good
      have hfl := hat.hl
      have hdn := hat.hdone
      have c0 := hat.c0
      have c1 := hat.c1
      have c2 := hat.c2
      have c3 := hat.c3
      unfold fld at c1 c2 c3
      have HB1 := Lib.hid (Hb.out.alloc Hb.out.size (.cells #[.string f.name, .slice f.da f.data.length f.dc, .int .i64 f.done, .bool f.there] 68))
      have HX1 : Hid ((wr.alloc (.cells #[.string f.name, .slice f.da f.data.length f.dc, .int .i64 f.done, .bool f.there] 68)).heap[wr.heap.size]? = some (.cells #[.string f.name, .slice f.da f.data.length f.dc, .int .i64 f.done, .bool f.there] 68 (0, 0))) := heap_alloc_new wr _
      have HMf := Lib.hid (HM.out _ HB1.out f.name)
      have HFl := Lib.hid (HF.out.below ((Below.refl wr.heap.size wr).alloc (Nat.le_refl _) (.cells #[.string f.name, .slice f.da f.data.length f.dc, .int .i64 f.done, .bool f.there] 68)))
      clear hf hat
      go_wp2_with fail
      refine HMf.out.mono ?_
      rintro e w2 ⟨rfl, hb2⟩
      have HBW := Lib.hid (((Below.refl wr.heap.size wr).alloc (Nat.le_refl _) (.cells #[.string f.name, .slice f.da f.data.length f.dc, .int .i64 f.done, .bool f.there] 68)).trans (hb2.mono (by simp)))
      have HB2 := Lib.hid (HB1.out.trans (hb2.mono HB1.out.size))
      have hblk2 := (hb2.block wr.heap.size (by simp)).trans HX1.out
      have x0 : w2.cell? ⟨wr.heap.size, 0, none⟩ = some (.string f.name) := cell_of_blk hblk2 rfl
      have x1 : w2.cell? ⟨wr.heap.size, 1, none⟩ = some (.slice f.da f.data.length f.dc) := cell_of_blk hblk2 rfl
      have x2 : w2.cell? ⟨wr.heap.size, 2, none⟩ = some (.int .i64 f.done) := cell_of_blk hblk2 rfl
      have x3 : w2.cell? ⟨wr.heap.size, 3, none⟩ = some (.bool f.there) := cell_of_blk hblk2 rfl
      have HX2 := Lib.hid hblk2
      have HFl2 := Lib.hid (HFl.out.below hb2)
      have Hlt2 : Hid (wr.heap.size < w2.heap.size) := (Array.getElem?_eq_some_iff.1 hblk2).1
      obtain ⟨z, hz⟩ : ∃ z, manyK ks f.name.data.toList = z := ⟨_, rfl⟩
      rw [hz]
      have Hz : Hid (manyK ks f.nm = z) := hz
      clear hblk2 hb2 hz HMf HFl c0 c1 c2 c3
      by_cases hskip : f.there = false ∧ z < 0
      · obtain ⟨ht, hzn⟩ := hskip
        have HK2 := Lib.hid (HK.out.skip HR.out Hf.out (keepF_none ht (by rw [Hz.out]; exact hzn)))
        rw [ht] at x3
        have hdz : decide (0 ≤ z) = false := by simpa using hzn
        rw [hdz]
        go_wp2_with fail
        go_roundw
        case rel => exact ⟨k + 1, a', c', l', by omega, by go_num, rfl, HFl2, HK2, HB2⟩
        case measure => simp [intOf]; omega
      · have hkp := keepF_some (ks := ks) (f := f) (by rw [Hz.out]; exact hskip)
        obtain ⟨m, hm⟩ : ∃ m : Nat, (f.done : Int) + min (max z 0) ((f.data.length : Int) - (f.done : Int)) = (m : Int) := ⟨((f.done : Int) + min (max z 0) ((f.data.length : Int) - (f.done : Int))).toNat, by omega⟩
        have hml : m ≤ f.data.length := by omega
        have hcut : cutK ks f.nm (toF f) = m := by
          unfold cutK toF
          rw [Hz.out]
          dsimp only
          omega
        rw [hcut] at hkp
        have hbl : (f.data.take m).length = m := by rw [List.length_take]; omega
        obtain ⟨hrun, hbu⟩ := HG.out.hb.upto HG.out.hcap hml hfl
        obtain ⟨bs, hbs⟩ : ∃ bs, f.data.take m = bs := ⟨_, rfl⟩
        rw [hbs] at hbl hbu hkp
        have HKP := Lib.hid hkp
        have Hbl := Lib.hid hbl
        have HB2b : Hid (Below wr.heap.size wr w2) := HBW.out
        have HB5 := Lib.hid ((Below.refl w2.heap.size w2).alloc (Nat.le_refl _) (.cells #[] 5))
        have HO5 := Lib.hid (hown_empty w2)
        have HBF := Lib.hid ((hbu.step (below_step (both d o) HB2b.out)).step (below_step _ HB5.out))
        have z1 := (HB5.out.cell (p := ⟨wr.heap.size, 1, none⟩) Hlt2.out).trans x1
        have z2 := (HB5.out.cell (p := ⟨wr.heap.size, 2, none⟩) Hlt2.out).trans x2
        clear hkp hbl hbu hbs hcut
        have key : ∀ th sd : Bool, f.there = th → decide (0 ≤ z) = sd → (th || sd) = true → True := fun _ _ _ _ _ => trivial
        clear key
        cases ht : f.there with
        | true =>
          rw [ht] at x3
          clear ht
          go_wp2_with (first
            | (at_builtin; refine wpList_append_bargB rfl (.tmp 49) (.tmp 56) rfl HBF.out HO5.out (by simp) (by rw [Hbl.out]; omega) rfl rfl ?_; intro a3 c3 w3 hown3 hgrow3; have HB3 := Lib.hid (((Below.refl w2.heap.size w2).alloc (Nat.le_refl _) (.cells #[] 5)).grown hgrow3 (by simp) (fun k hk => by simp [Value.ownBlock] at hk; omega)); (rw [Nat.zero_add, List.nil_append] at hown3); have HO3 := Lib.hid hown3; have y0 := (HB3.out.cell (p := ⟨wr.heap.size, 0, none⟩) Hlt2.out).trans x0; have y1 := (HB3.out.cell (p := ⟨wr.heap.size, 1, none⟩) Hlt2.out).trans x1; have y2 := (HB3.out.cell (p := ⟨wr.heap.size, 2, none⟩) Hlt2.out).trans x2; have y3 := (HB3.out.cell (p := ⟨wr.heap.size, 3, none⟩) Hlt2.out).trans x3; have g1 : w3.frozen? ⟨wr.heap.size, 1, none⟩ = false := frozen_of_blk ((HB3.out.block _ Hlt2.out).trans HX2.out); have g2 : w3.frozen? ⟨wr.heap.size, 2, none⟩ = false := frozen_of_blk ((HB3.out.block _ Hlt2.out).trans HX2.out); have g3 : w3.frozen? ⟨wr.heap.size, 3, none⟩ = false := frozen_of_blk ((HB3.out.block _ Hlt2.out).trans HX2.out); clear hown3 hgrow3 HBF HO5 x0 x1 x2 x3 z1 z2))
          obtain ⟨W4, hW4⟩ : ∃ W4, W4 = (((w3.setCell ⟨wr.heap.size, 1, none⟩ (.slice a3 bs.length c3)).setCell ⟨wr.heap.size, 2, none⟩ (.int .i64 bs.length)).setCell ⟨wr.heap.size, 3, none⟩ (.bool true)) := ⟨_, rfl⟩
          rw [← hW4]
          have hfr : Fr (fun b => b = wr.heap.size) w3 W4 := by rw [hW4]; exact (((Fr.refl (fun b => b = wr.heap.size) w3).setCell _ _ (fun _ => rfl)).setCell _ _ (fun _ => rfl)).setCell _ _ (fun _ => rfl)
          have hB3 : Below wr.heap.size wr w3 := HBW.out.trans (HB3.out.mono (Nat.le_of_lt Hlt2.out))
          have hB4 : Below wr.heap.size wr W4 := hB3.trans (hfr.to_below hB3.size (fun k hk e => by omega))
          have hrow4 : W4.ownsRow w2.heap.size 5 1 (.slice a3 bs.length c3) bs.length (byteCells bs) := ownsRow_of_block HO3.out (fun g hg => hfr.block g (HO3.out.lt g hg).2 (fun e => by have h8 := (HO3.out.lt g hg).1; have h9 := Hlt2.out; omega))
          have hcap4 : bs.length ≤ c3 := by
            rcases hrow4.2 with ⟨e, h0⟩ | ⟨g, cap, cur, e, _, _, h1, _⟩
            · rw [h0]; exact Nat.zero_le _
            · injection e with _ _ e
              rw [e]; exact h1
          have hold4 : ∀ b, W4.heap.size ≤ b → both d o b = none := fun b hb => both_none.2 (H0.out.old b (Nat.le_trans Hb.out.size (Nat.le_trans hB4.size hb)))
          have hlenl : l'.length ≤ 1000000 := by have h8 := HK.out.len; rw [List.length_take] at h8; omega
          have hgx : FGood W4 (both d o) ⟨f.name, a3, c3, bs, bs.length, true⟩ := ⟨HG.out.hname, BArg.of_row hrow4 (fun b hb => both_none.2 (H0.out.old b (by have h8 := Hlt2.out; have h9 := Hb.out.size; omega))), hcap4, by show bs.length ≤ _; rw [Hbl.out]; omega, Nat.le_refl _⟩
          have HFW := Lib.hid (HF.out.below hB4)
          have HK2 := Lib.hid (HK.out.keep HR.out Hf.out (x := ⟨f.name, a3, c3, bs, bs.length, true⟩) rfl HKP.out)
          have HBF4 := Lib.hid (Hb.out.trans (hB4.mono Hb.out.size))
          have HGX := Lib.hid hgx
          have HOLD4 := Lib.hid hold4
          clear hW4 hfr hB3 hB4 hrow4 hcap4 hgx hold4 y0 y1 y2 y3 g1 g2 g3 HO3 HB3
          refine (rput_calls W4 (both d o) a' c' l' ⟨f.name, a3, c3, bs, bs.length, true⟩ HFW.out hlenl HGX.out HOLD4.out).mono ?_
          rintro e w5 ⟨a5, c5, rfl, hr5, hb5⟩
          have HR5 := Lib.hid hr5
          have HB5b := Lib.hid (HBF4.out.trans (hb5.mono HBF4.out.size))
          clear hr5 hb5
          go_wp2_with fail
          go_roundw
          case rel => exact ⟨k + 1, a5, c5, _, by omega, by go_num, rfl, HR5, HK2, HB5b⟩
          case measure => simp [intOf]; omega
        | false =>
          have hdz : decide (0 ≤ z) = true := by
            have : ¬ z < 0 := fun e => hskip ⟨ht, e⟩
            simp; omega
          rw [ht] at x3
          rw [hdz]
          clear ht
          go_wp2_with (first
            | (at_builtin; refine wpList_append_bargB rfl (.tmp 49) (.tmp 56) rfl HBF.out HO5.out (by simp) (by rw [Hbl.out]; omega) rfl rfl ?_; intro a3 c3 w3 hown3 hgrow3; have HB3 := Lib.hid (((Below.refl w2.heap.size w2).alloc (Nat.le_refl _) (.cells #[] 5)).grown hgrow3 (by simp) (fun k hk => by simp [Value.ownBlock] at hk; omega)); (rw [Nat.zero_add, List.nil_append] at hown3); have HO3 := Lib.hid hown3; have y0 := (HB3.out.cell (p := ⟨wr.heap.size, 0, none⟩) Hlt2.out).trans x0; have y1 := (HB3.out.cell (p := ⟨wr.heap.size, 1, none⟩) Hlt2.out).trans x1; have y2 := (HB3.out.cell (p := ⟨wr.heap.size, 2, none⟩) Hlt2.out).trans x2; have y3 := (HB3.out.cell (p := ⟨wr.heap.size, 3, none⟩) Hlt2.out).trans x3; have g1 : w3.frozen? ⟨wr.heap.size, 1, none⟩ = false := frozen_of_blk ((HB3.out.block _ Hlt2.out).trans HX2.out); have g2 : w3.frozen? ⟨wr.heap.size, 2, none⟩ = false := frozen_of_blk ((HB3.out.block _ Hlt2.out).trans HX2.out); have g3 : w3.frozen? ⟨wr.heap.size, 3, none⟩ = false := frozen_of_blk ((HB3.out.block _ Hlt2.out).trans HX2.out); clear hown3 hgrow3 HBF HO5 x0 x1 x2 x3 z1 z2))
          obtain ⟨W4, hW4⟩ : ∃ W4, W4 = (((w3.setCell ⟨wr.heap.size, 1, none⟩ (.slice a3 bs.length c3)).setCell ⟨wr.heap.size, 2, none⟩ (.int .i64 bs.length)).setCell ⟨wr.heap.size, 3, none⟩ (.bool true)) := ⟨_, rfl⟩
          rw [← hW4]
          have hfr : Fr (fun b => b = wr.heap.size) w3 W4 := by rw [hW4]; exact (((Fr.refl (fun b => b = wr.heap.size) w3).setCell _ _ (fun _ => rfl)).setCell _ _ (fun _ => rfl)).setCell _ _ (fun _ => rfl)
          have hB3 : Below wr.heap.size wr w3 := HBW.out.trans (HB3.out.mono (Nat.le_of_lt Hlt2.out))
          have hB4 : Below wr.heap.size wr W4 := hB3.trans (hfr.to_below hB3.size (fun k hk e => by omega))
          have hrow4 : W4.ownsRow w2.heap.size 5 1 (.slice a3 bs.length c3) bs.length (byteCells bs) := ownsRow_of_block HO3.out (fun g hg => hfr.block g (HO3.out.lt g hg).2 (fun e => by have h8 := (HO3.out.lt g hg).1; have h9 := Hlt2.out; omega))
          have hcap4 : bs.length ≤ c3 := by
            rcases hrow4.2 with ⟨e, h0⟩ | ⟨g, cap, cur, e, _, _, h1, _⟩
            · rw [h0]; exact Nat.zero_le _
            · injection e with _ _ e
              rw [e]; exact h1
          have hold4 : ∀ b, W4.heap.size ≤ b → both d o b = none := fun b hb => both_none.2 (H0.out.old b (Nat.le_trans Hb.out.size (Nat.le_trans hB4.size hb)))
          have hlenl : l'.length ≤ 1000000 := by have h8 := HK.out.len; rw [List.length_take] at h8; omega
          have hgx : FGood W4 (both d o) ⟨f.name, a3, c3, bs, bs.length, true⟩ := ⟨HG.out.hname, BArg.of_row hrow4 (fun b hb => both_none.2 (H0.out.old b (by have h8 := Hlt2.out; have h9 := Hb.out.size; omega))), hcap4, by show bs.length ≤ _; rw [Hbl.out]; omega, Nat.le_refl _⟩
          have HFW := Lib.hid (HF.out.below hB4)
          have HK2 := Lib.hid (HK.out.keep HR.out Hf.out (x := ⟨f.name, a3, c3, bs, bs.length, true⟩) rfl HKP.out)
          have HBF4 := Lib.hid (Hb.out.trans (hB4.mono Hb.out.size))
          have HGX := Lib.hid hgx
          have HOLD4 := Lib.hid hold4
          clear hW4 hfr hB3 hB4 hrow4 hcap4 hgx hold4 y0 y1 y2 y3 g1 g2 g3 HO3 HB3
          refine (rput_calls W4 (both d o) a' c' l' ⟨f.name, a3, c3, bs, bs.length, true⟩ HFW.out hlenl HGX.out HOLD4.out).mono ?_
          rintro e w5 ⟨a5, c5, rfl, hr5, hb5⟩
          have HR5 := Lib.hid hr5
          have HB5b := Lib.hid (HBF4.out.trans (hb5.mono HBF4.out.size))
          clear hr5 hb5
          go_wp2_with fail
          go_roundw
          case rel => exact ⟨k + 1, a5, c5, _, by omega, by go_num, rfl, HR5, HK2, HB5b⟩
          case measure => simp [intOf]; omega
    · have hfin : r.L.take k = r.L := by rw [show k = l by omega, ← Hl.out]; exact List.take_length
      rw [hfin] at HK
      clear hfin
      obtain ⟨g, hgl⟩ : ∃ g, r.Gone.length = g := ⟨_, rfl⟩
      obtain ⟨ga, gc, hgv, hgrow, _⟩ := FRow.of_owns (own := fun _ => none) H0.out.rowG (fun _ _ => rfl) (fun f hf => (H0.out.good f hf).none)
      have HGN := Lib.hid hgrow
      have hb1 : w.cell? ⟨rb, 1, none⟩ = some (.slice ga r.Gone.length gc) := by rw [← hgv]; exact H0.out.c1
      rw [hgl] at hb1 hcnt
      have HB1g := Lib.hid hb1
      have Hgl := Lib.hid hgl
      have HK1 : Hid (Kept1 ks r.L l') := HK
      obtain ⟨l1, hl1⟩ : ∃ l1, l1 = l' := ⟨_, rfl⟩
      have HS : Hid (Kept2 l1 (r.Gone.take 0) l') := by rw [hl1]; exact Kept2.nil HK.out.rising
      rw [← hl1] at HK1
      clear hgv hgrow hb1 hgl hl1 HK
      go_wp2_with fail
      go_loopw [4, 9] (fun v i wr => ∃ (k : Nat) (a' : Option Addr) (c' : Nat) (l' : List RF), k ≤ g ∧ i = .int .i64 k ∧ v = .slice a' l'.length c' ∧ Hid (FRow wr (both d o) a' l') ∧ Hid (Kept2 l1 (r.Gone.take k) l') ∧ Hid (Below w.heap.size w wr)) (fun _ i _ => g - (intOf i).toNat)
      case atStart => exact ⟨0, a', c', l', Nat.zero_le _, rfl, rfl, HF, HS, Hb⟩
      case round =>
        clear HS HF Hb b0
        obtain ⟨k, a', c', l', hk, rfl, rfl, HF, HK, Hb⟩ := hrel
        have b1 := (Hb.out.cell (p := ⟨rb, 1, none⟩) (World.block_lt_of_cell? _ _ HB1g.out)).trans HB1g.out
        by_cases hlt : k < g
        · obtain ⟨f, hf⟩ : ∃ f, r.Gone[k]? = some f := ⟨_, List.getElem?_eq_getElem (by rw [Hgl.out]; exact hlt)⟩
          have Hf := Lib.hid hf
          obtain ⟨A, rfl, _, hat⟩ := (HGN.out.below Hb.out) k f hf
          have HG := Lib.hid ((H0.out.good f (List.mem_of_getElem? hf)).below Hb.out)
          have hfl := hat.hl
          have hdn := hat.hdone
          have c0 := hat.c0
          have c1 := hat.c1
          have c2 := hat.c2
          have c3 := hat.c3
          unfold fld at c1 c2 c3
          obtain ⟨hrun, hbu⟩ := HG.out.hb.upto HG.out.hcap hdn hfl
          obtain ⟨bs, hbs⟩ : ∃ bs, f.data.take f.done = bs := ⟨_, rfl⟩
          have hbl : bs.length = f.done := by rw [← hbs, List.length_take]; omega
          rw [hbs] at hbu
          have Hbl := Lib.hid hbl
          have Hbs := Lib.hid hbs
          obtain ⟨hx1, hx2, hx3⟩ := rcrash_new wr f
          have HO5 := Lib.hid hx1
          have HX3 := Lib.hid hx3
          have HBF := Lib.hid (hbu.step (below_step (both d o) hx2))
          clear hf hat hbu hbs hbl hx1 hx2 hx3
          go_wp2_with (first
            | (at_builtin; refine wpList_append_bargB rfl (.tmp 83) (.tmp 88) rfl HBF.out HO5.out (by simp) (by rw [Hbl.out]; omega) (by simp [Act.eval, Act.put]) (by simp [Act.eval, Act.put]) ?_; intro a3 c3 w3 hown3 hgrow3; (rw [Nat.zero_add, List.nil_append] at hown3); obtain ⟨hB3, hblk3⟩ := HX3.out w3 hgrow3; have HB3 := Lib.hid hB3; have HO3 := Lib.hid hown3; have y0 : w3.cell? ⟨wr.heap.size, 0, none⟩ = some (.string f.name) := cell_of_blk hblk3 rfl; have y1 : w3.cell? ⟨wr.heap.size, 1, none⟩ = some (.slice f.da f.data.length f.dc) := cell_of_blk hblk3 rfl; have y2 : w3.cell? ⟨wr.heap.size, 2, none⟩ = some (.int .i64 f.done) := cell_of_blk hblk3 rfl; have y3 : w3.cell? ⟨wr.heap.size, 3, none⟩ = some (.bool f.there) := cell_of_blk hblk3 rfl; have g1 : w3.frozen? ⟨wr.heap.size, 1, none⟩ = false := frozen_of_blk hblk3; have g3 : w3.frozen? ⟨wr.heap.size, 3, none⟩ = false := frozen_of_blk hblk3; clear hown3 hgrow3 hblk3 hB3 HBF HO5))
          obtain ⟨W4, hW4⟩ : ∃ W4, W4 = (w3.setCell ⟨wr.heap.size, 1, none⟩ (.slice a3 bs.length c3)).setCell ⟨wr.heap.size, 3, none⟩ (.bool true) := ⟨_, rfl⟩
          rw [← hW4]
          have hfr : Fr (fun b => b = wr.heap.size) w3 W4 := by rw [hW4]; exact ((Fr.refl (fun b => b = wr.heap.size) w3).setCell _ _ (fun _ => rfl)).setCell _ _ (fun _ => rfl)
          have hB3 : Below wr.heap.size wr w3 := HB3.out
          have hB4 : Below wr.heap.size wr W4 := hB3.trans (hfr.to_below hB3.size (fun k hk e => by omega))
          have hrow4 : W4.ownsRow (wr.heap.size + 1) 5 1 (.slice a3 bs.length c3) bs.length (byteCells bs) := ownsRow_of_block HO3.out (fun g hg => hfr.block g (HO3.out.lt g hg).2 (fun e => by have h8 := (HO3.out.lt g hg).1; omega))
          have hcap4 : bs.length ≤ c3 := by
            rcases hrow4.2 with ⟨e, h0⟩ | ⟨g, cap, cur, e, _, _, h1, _⟩
            · rw [h0]; exact Nat.zero_le _
            · injection e with _ _ e
              rw [e]; exact h1
          have hold4 : ∀ b, W4.heap.size ≤ b → both d o b = none := fun b hb => both_none.2 (H0.out.old b (Nat.le_trans Hb.out.size (Nat.le_trans hB4.size hb)))
          have hlenl : l'.length ≤ 1000000 := by have h8 := HK.out.len; have h9 := HK1.out.len; have h10 := Hl.out; rw [List.length_take] at h8; omega
          have hgx : FGood W4 (both d o) ⟨f.name, a3, c3, bs, f.done, true⟩ := ⟨HG.out.hname, BArg.of_row hrow4 (fun b hb => both_none.2 (H0.out.old b (by have h9 := Hb.out.size; omega))), hcap4, by show bs.length ≤ _; rw [Hbl.out]; omega, by show f.done ≤ bs.length; rw [Hbl.out]; exact Nat.le_refl _⟩
          have HFW := Lib.hid (HF.out.below hB4)
          have HK2 := Lib.hid (HK.out.next H1.out Hf.out (x := ⟨f.name, a3, c3, bs, f.done, true⟩) rfl (by unfold toF backF; dsimp only; rw [Hbs.out, Hbl.out]; rfl))
          have HBF4 := Lib.hid (Hb.out.trans (hB4.mono Hb.out.size))
          have HGX := Lib.hid hgx
          have HOLD4 := Lib.hid hold4
          clear hW4 hfr hB3 hB4 hrow4 hcap4 hgx hold4 y0 y1 y2 y3 g1 g3 HO3 HB3
          refine (rput_calls W4 (both d o) a' c' l' ⟨f.name, a3, c3, bs, f.done, true⟩ HFW.out hlenl HGX.out HOLD4.out).mono ?_
          rintro e w5 ⟨a5, c5, rfl, hr5, hb5⟩
          have HR5 := Lib.hid hr5
          have HB5b := Lib.hid (HBF4.out.trans (hb5.mono HBF4.out.size))
          clear hr5 hb5
          go_wp2_with fail
          go_roundw
          case rel => exact ⟨k + 1, a5, c5, _, by omega, by go_num, rfl, HR5, HK2, HB5b⟩
          case measure => simp [intOf]; omega
        · have hfin2 : r.Gone.take k = r.Gone := by rw [show k = g by omega, ← Hgl.out]; exact List.take_length
          have hk2 := HK.out
          rw [hfin2] at hk2
          obtain ⟨hcr, hlen⟩ := Kept2.crashed HK1.out hk2
          have hcn := H0.out.cnt
          obtain ⟨h4, st4⟩ := H0.out.setL (n' := l'.length + r.Gone.length) Hb.out (lc' := c') HF.out (Nat.le_refl _)
          obtain ⟨o2, h5, st5⟩ := h4.setG (n' := n) (a' := none) (c' := 0) (G' := []) (Fr.refl _ _) (World.ownsRow_nil _ _ _ _) (fun g hg => by simp [Value.ownBlock] at hg) (fun f hf => by simp at hf) (by show l'.length + 0 ≤ n; omega)
          obtain ⟨h6, st6⟩ := h5.setBlk (w' := ((((wr.setCell ⟨rb, 0, none⟩ (.slice a' l'.length c')).setCell ⟨rb, 1, none⟩ (.slice none 0 0)).setCell ⟨rb, 4, none⟩ (.bool false)).setCell ⟨rb, 5, none⟩ (.int .i64 0)).setCell ⟨rb, 6, none⟩ (.bool false)) (acts := r.acts) (left := 0) (fused := false) (off := false) ((((Fr.refl (fun b => b = rb) _).setCell _ _ (fun _ => rfl)).setCell _ _ (fun _ => rfl)).setCell _ _ (fun _ => rfl)) (setCell_blk (setCell_blk (setCell_blk h5.blk _) _) _) H0.out.racts (by omega)
          have hblk := (Hb.out.block rb (H0.out.lt (by simp [H0.out.orb]))).trans H0.out.blk
          have b0 : wr.cell? ⟨rb, 0, none⟩ = some (.slice la r.L.length lc) := cell_of_blk hblk rfl
          have b4 : wr.cell? ⟨rb, 4, none⟩ = some (.bool r.fused) := cell_of_blk hblk rfl
          have b5 : wr.cell? ⟨rb, 5, none⟩ = some (.int .i64 r.left) := cell_of_blk hblk rfl
          have b6 : wr.cell? ⟨rb, 6, none⟩ = some (.bool r.off) := cell_of_blk hblk rfl
          have f0 : wr.frozen? ⟨rb, 0, none⟩ = false := frozen_of_blk hblk
          have f1 : wr.frozen? ⟨rb, 1, none⟩ = false := frozen_of_blk hblk
          have f4 : wr.frozen? ⟨rb, 4, none⟩ = false := frozen_of_blk hblk
          have f5 : wr.frozen? ⟨rb, 5, none⟩ = false := frozen_of_blk hblk
          have f6 : wr.frozen? ⟨rb, 6, none⟩ = false := frozen_of_blk hblk
          have HCR := Lib.hid hcr
          have H6 := Lib.hid h6
          have ST6 := Lib.hid ((st4.trans st5).trans st6)
          clear h4 st4 h5 st5 h6 st6 hblk hcr hlen hcn hk2 hfin2
          go_wp2_with fail
          go_end0
          exact ⟨rfl, l', HCR.out, o2, ⟨_, _, _, H6.out⟩, ST6.out⟩
end

end Go.Proofs.Yteonkojfnmbpoaa
