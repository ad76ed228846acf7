/- Remove of a file that is there. -/
import Derived.Test.YtgkhnimdlkdaaaaDA
import Derived.Deep.RegionHeld3
namespace Go.Proofs.Ytgkhnimdlkdaaaa
open Go.RowKit Go.Lib Go.Maps

section
variable {S : Prop} {w w' : World} {own own' : Owner} {db fb rb : Nat} {D D' E E' : DataW Unit} {n n' : Nat} {m : DevM}

/-- What stays while the copies of a removed file are made: three cells, and all that was there. -/
def GoneS (w0 : World) (db rb p : Nat) (a : Option Addr) (l c sy : Nat) (W : World) : Prop :=
  W.cell? ⟨db, 2, none⟩ = some (.map (some rb)) ∧ W.cell? ⟨p, 0, none⟩ = some (.slice a l c) ∧ W.cell? ⟨p, 1, none⟩ = some (.int .i64 sy) ∧ Hid (Below w0.heap.size w0 W)

theorem GoneS.of_below {w0 W W' : World} {db rb p : Nat} {a : Option Addr} {l c sy : Nat} (h : GoneS w0 db rb p a l c sy W) (hdb : db < w0.heap.size) (hp : p < w0.heap.size) (hb : Below W.heap.size W W') : GoneS w0 db rb p a l c sy W' := by
  have hsz := h.2.2.2.out.size
  exact ⟨(hb.cell (p := ⟨db, 2, none⟩) (by simp; omega)).trans h.1, (hb.cell (p := ⟨p, 0, none⟩) (by simp; omega)).trans h.2.1, (hb.cell (p := ⟨p, 1, none⟩) (by simp; omega)).trans h.2.2.1, h.2.2.2.out.trans (hb.mono hsz)⟩

/-- The end of the statement that lays a removed file by: the device has what was synced of it. -/
def GonePost (S : Prop) (w0 : World) (own : Owner) (db fb rb : Nat) (D E : DataW Unit) (n : Nat) (m : DevM) (k d : List UInt8) (W : World) : Prop :=
  ∃ own' E', Dev S W own' db fb rb D E' (n + 1) { m with gone := setF m.gone k (some d) } ∧ Step own own' w0 W

theorem gone_store (h : Dev S w own db fb rb D E n m) (hn : n < 2000000000000) {s : ByteArray} (hs : s.size ≤ maxLen) {W : World} (hb : Below w.heap.size w W) {d : List UInt8} {dv : Value} (hrow : W.ownsRow w.heap.size 5 1 dv d.length (byteCells d)) (hl : d.length ≤ 262144) :
    ∃ w5, (Instr.mapUpdate 63 (.map (some rb)) (.string s) dv).run Try.prog W = .ok () w5 ∧ Hid (GonePost S w own db fb rb D E n m s.data.toList d w5) ∧ ∀ q v, q.block ≠ rb → W.cell? q = some v → w5.cell? q = some v := by
  obtain ⟨c0, hc0⟩ := h.rmap
  obtain ⟨c, hc, hcn⟩ : ∃ c, w.ownsMap Try.prog 9 slR rb c E ∧ c ≤ n := by
    have hcnt := h.cnt
    obtain ⟨es, clock, h1, h2, h3, h4⟩ := hc0
    refine ⟨es.size, ⟨es, clock, h1, h2, Nat.le_refl _, h4⟩, ?_⟩
    have : Maps.size E = es.size := by rw [h4]; simp [Maps.size, length_sorted]
    omega
  obtain ⟨w5, hrun, hm, ht⟩ := (ownsMap_of_block hc (hb.block rb hc.lt)).update lawS Try.underlying63 (by unfold maxLen; omega) (val := dv) (WideMaps.keyOf_string_mk Try.underlying9 hs) (ownsRow_slR hrow)
  have hrow5 : w5.ownsRow w.heap.size 5 1 dv d.length (byteCells d) := ownsRow_of_block hrow (fun g hg => ht.block g (hrow.lt g hg).2 (fun e => by injection e with e; have := (hrow.lt g hg).1; have := hc.lt; omega))
  refine ⟨w5, hrun, ⟨_, _, h.putGone (Nat.le_trans hb.size ht.size) (fun b hb' hne => ?_) hm hrow5 hl, ⟨⟨ht.os.trans hb.os, ht.tape.trans hb.tape, ht.output.trans hb.output, Nat.le_trans hb.size ht.size, fun i hi hn' => ?_⟩, fun b hb1 hb2 => ?_⟩⟩, fun q v hq hv => ht.cell hv (fun e => hq (by injection e))⟩
  · rw [ht.block b (Nat.lt_of_lt_of_le (h.lt hb') hb.size) (fun e => hne (by injection e))]
    exact hb.block b (h.lt hb')
  · rw [ht.block i (Nat.lt_of_lt_of_le hi hb.size) (fun e => hn' (by injection e with e; subst e; simp [h.orb]))]
    exact hb.block i hi
  · rw [if_neg (fun e => by have := (hrow.lt b e).1; omega)]
    exact hb2

theorem take_row {a : Option Addr} {l c k : Nat} {d : List UInt8} (h : w.ownsRow 0 5 1 (.slice a l c) d.length (byteCells d)) (hk : k ≤ d.length) :
    l = d.length ∧ l ≤ c ∧ w.ownsRow 0 5 1 (.slice a k c) (d.take k).length (byteCells (d.take k)) := by
  have hlk : (d.take k).length = k := by simp; omega
  rcases h.2 with ⟨e, h0⟩ | ⟨g, cap, cur, e, h1, h2, h3, h4, h5, h6⟩
  · simp only [Value.slice.injEq] at e
    obtain ⟨rfl, rfl, rfl⟩ := e
    obtain rfl : k = 0 := by omega
    exact ⟨h0.symm, Nat.le_refl _, by simp [byteCells], Or.inl ⟨rfl, by simp⟩⟩
  · simp only [Value.slice.injEq] at e
    obtain ⟨rfl, rfl, rfl⟩ := e
    refine ⟨rfl, h3, by rw [byteCells_length, Nat.mul_one], Or.inr ⟨g, c, cur, by rw [hlk], h1, h2, by omega, h4, h5, ?_⟩⟩
    rw [hlk, ← byteCells_take, ← h6, List.take_take]
    congr 1
    omega

set_option maxHeartbeats 1000000 in
set_option maxRecDepth 100000 in
theorem Dev.remove_fresh (h : Dev S w own db fb rb D E n m) (hcn : n ≤ 1000000000000) (ha : m.acts ≤ 1000000000000) (hd : (m.down || m.fuse == 0) = false) {s : ByteArray} (hs : s.size ≤ maxLen) (hn : nameOk s.data.toList = true) {f : FileM} (hf : m.files s.data.toList = some f) (hfr : f.fresh = true) :
    Calls Try.prog 18 #[.pointer (some ⟨db, 0, none⟩), .string s] w fun e w' => e = .returned (.int .i64 0) ∧ ∃ own' D' E', Dev S w' own' db fb rb D' E' n { m with down := false, acts := m.acts + 1, fuse := fuseLess m.fuse, files := setF m.files s.data.toList none } ∧ Step own own' w w' := by
  have hpl := h.powerless
  rw [hd] at hpl
  have Hn := Lib.hid hn
  have Hf := Lib.hid hf
  have Hfr := Lib.hid hfr
  have hkey := WideMaps.keyOf_string_mk Try.underlying9 hs
  clear hd h hn hf hfr
  go_enter Try.func18, Try.ntmps18
  go_wp2_with fail
  refine hpl.mono ?_
  rintro e w1 ⟨rfl, h1, st1⟩
  obtain ⟨p, dv, hl, hat, hfa, hp, hg⟩ := h1.look_some hs Hf.out
  have hfd := h1.find_some hs Hn.out hl
  have p2 : w1.cell? ⟨p, 2, none⟩ = some (.bool true) := by rw [← Hfr.out]; exact cell_of_blk hfa.1 rfl
  have c1 := h1.c1
  obtain ⟨c, hc⟩ := h1.fmap
  have HH : Hid (Dev S w1 own db fb rb D E n { m with down := false }) := h1
  clear hl hat hfa hp hg h1
  go_wp2_with fail
  refine hfd.mono ?_
  rintro e w2 ⟨rfl, rfl⟩
  go_wp2_with (first
    | (at_delete; refine wpList_delete_own _ rfl _ _ 62 9 rfl 61 lawS Try.underlying62 _ fb c D rfl hc _ _ rfl hkey ?_; intro w3 hown3 hturn3)
    | fail)
  have h3 := (HH.out.del (k := s.data.toList) (by simp [Hf.out]) hown3 hturn3).1
  have st3 : Step own own w1 w3 := Step.of_fr ((Fr.refl _ _).grown hturn3.grown (fun k hk _ => by injection hk with hk; subst hk; simp [HH.out.ofb]))
  refine (h3.done (by simp only; omega)).mono ?_
  rintro e w6 ⟨rfl, h6, st6⟩
  go_wp2_with fail
  go_ret
  exact ⟨rfl, own, _, _, h6, (st1.trans st3).trans st6⟩

set_option maxHeartbeats 2000000 in
set_option maxRecDepth 100000 in
theorem Dev.remove_old (h : Dev S w own db fb rb D E n m) (hcn : n ≤ 1000000000000) (ha : m.acts ≤ 1000000000000) (hd : (m.down || m.fuse == 0) = false) {s : ByteArray} (hs : s.size ≤ maxLen) (hn : nameOk s.data.toList = true) {f : FileM} (hf : m.files s.data.toList = some f) (hfr : f.fresh = false) :
    Calls Try.prog 18 #[.pointer (some ⟨db, 0, none⟩), .string s] w fun e w' => e = .returned (.int .i64 0) ∧ ∃ own' D' E', Dev S w' own' db fb rb D' E' n { m with down := false, acts := m.acts + 1, fuse := fuseLess m.fuse, files := setF m.files s.data.toList none, gone := setF m.gone s.data.toList (some (f.data.take f.synced)) } ∧ Step own own' w w' := by
  have hsz : s.size ≤ 281474976710656 := by have := (nameOk_len hn).2; simp at this; omega
  have hpl := h.powerless
  rw [hd] at hpl
  have Hn := Lib.hid hn
  have Hf := Lib.hid hf
  have Hfr := Lib.hid hfr
  have hkey := WideMaps.keyOf_string_mk Try.underlying9 hs
  clear hd h hn hf hfr
  go_enter Try.func18, Try.ntmps18
  go_wp2_with fail
  refine hpl.mono ?_
  rintro e w1 ⟨rfl, h1, st1⟩
  obtain ⟨p, dv, hl, hat, hfa, hp, hg⟩ := h1.look_some hs Hf.out
  have hfd := h1.find_some hs Hn.out hl
  obtain ⟨a, l, c', rfl⟩ : ∃ a l c, dv = .slice a l c := by
    rcases hfa.2.1.2 with ⟨rfl, _⟩ | ⟨g, cap, cur, rfl, _⟩ <;> exact ⟨_, _, _, rfl⟩
  obtain ⟨hll, hlc, hrow⟩ := take_row (k := f.synced) hfa.2.1 hfa.2.2.1
  have hbc := fun (W : World) (hb : Below w1.heap.size w1 W) => bclone_row (w := W) (ownsRow_of_block hrow (fun g hg => hb.block g (hrow.lt g hg).2)) (by have := hfa.2.2.2; have := hfa.2.2.1; have := List.length_take_le f.synced f.data; omega)
  have p2 : w1.cell? ⟨p, 2, none⟩ = some (.bool false) := by rw [← Hfr.out]; exact cell_of_blk hfa.1 rfl
  have hpw := h1.lt (b := p) (by simp [hp])
  have hdw := h1.lt (b := db) (by simp [h1.odb])
  have S0 : GoneS w1 db rb p a l c' f.synced w1.drew := ⟨h1.c2, cell_of_blk hfa.1 rfl, cell_of_blk hfa.1 rfl, (Below.refl _ _).drew⟩
  have hsy0 : (0 : Int) ≤ (f.synced : Int) := Int.natCast_nonneg _
  have hsy1 : (f.synced : Int) ≤ (c' : Int) := by have := hfa.2.2.1; omega
  have hfin := fun (W : World) (hb : Below w1.heap.size w1 W) (v : Value) (hr : W.ownsRow w1.heap.size 5 1 v (f.data.take f.synced).length (byteCells (f.data.take f.synced))) => gone_store h1 (by omega) hs hb hr (by have := hfa.2.2.2; have := hfa.2.2.1; have := List.length_take_le f.synced f.data; omega)
  have hrbd : db ≠ rb := fun e => by have h5 := h1.orb; rw [← e, h1.odb] at h5; simp at h5
  have hrbp : p ≠ rb := fun e => by have h5 := h1.orb; rw [← e, hp] at h5; simp at h5
  have Hfin : Hid (∀ (W : World) (v : Value), GoneS w1 db rb p a l c' f.synced W → W.ownsRow w1.heap.size 5 1 v (f.data.take f.synced).length (byteCells (f.data.take f.synced)) →
      ∃ w5, (Instr.mapUpdate 63 (.map (some rb)) (.string s) v).run Try.prog W = .ok () w5 ∧ Hid (GonePost S w1 own db fb rb D E n { m with down := false } s.data.toList (f.data.take f.synced) w5) ∧ w5.cell? ⟨db, 2, none⟩ = some (.map (some rb)) ∧ w5.cell? ⟨p, 0, none⟩ = some (.slice a l c') ∧ w5.cell? ⟨p, 1, none⟩ = some (.int .i64 f.synced)) := fun W v hS hr => by
    obtain ⟨w5, h5, h6, h7⟩ := hfin W hS.2.2.2.out v hr
    exact ⟨w5, h5, h6, h7 _ _ hrbd hS.1, h7 _ _ hrbp hS.2.1, h7 _ _ hrbp hS.2.2.1⟩
  -- the two calls
  have Hsc : Hid (∀ W, GoneS w1 db rb p a l c' f.synced W → Calls Try.prog 50 #[.string s] W fun e w2 => e = .returned (.string s) ∧ GoneS w1 db rb p a l c' f.synced w2 ∧ Hid (Below W.heap.size W w2)) := fun W hW => (sclone_calls s W hsz).mono (by
    rintro e w2 ⟨rfl, hb⟩
    exact ⟨rfl, hW.of_below hdw hpw hb, hb⟩)
  have Hbc : Hid (∀ W, GoneS w1 db rb p a l c' f.synced W → Calls Try.prog 37 #[.slice a f.synced c'] W fun e w2 => ∃ a' l' c'', e = .returned (.slice a' l' c'') ∧ GoneS w1 db rb p a l c' f.synced w2 ∧ Hid (w2.ownsRow w1.heap.size 5 1 (.slice a' l' c'') (f.data.take f.synced).length (byteCells (f.data.take f.synced)))) := fun W hW => (hbc W hW.2.2.2.out).mono (by
    rintro e w2 ⟨v, rfl, hr, hb⟩
    obtain ⟨a', l', c'', rfl⟩ : ∃ a l c, v = .slice a l c := by
      rcases hr.2 with ⟨rfl, _⟩ | ⟨g, cap, cur, rfl, _⟩ <;> exact ⟨_, _, _, rfl⟩
    exact ⟨_, _, _, rfl, hW.of_below hdw hpw hb, ownsRow_base hr hW.2.2.2.out.size⟩)
  obtain ⟨k2, k0, k1, kb⟩ := S0
  have HH : Hid (Dev S w1 own db fb rb D E n { m with down := false }) := h1
  generalize hsyE : f.synced = sy at *
  have Hsy := Lib.hid hsyE
  clear hsyE
  clear hfin hl hat hfa hp hg h1 hrow hbc hll hlc
  go_wp2_with fail
  refine hfd.mono ?_
  rintro e w2 ⟨rfl, rfl⟩
  go_wp2_with fail
  go_region_held3 (fun W => W.cell? ⟨db, 2, none⟩ = some (.map (some rb)) ∧ W.cell? ⟨p, 0, none⟩ = some (.slice a l c') ∧ W.cell? ⟨p, 1, none⟩ = some (.int .i64 sy))
    ((refine ⟨?_, ?_, ?_⟩ <;> assumption))
    (first
      | (go_at_call 50; revert hq; intro hq; refine (Hsc.out _ ?_).mono ?_; (refine ⟨?_, ?_, ?_, ?_⟩ <;> assumption); rintro e w2 ⟨rfl, ⟨r2, r0, r1, rb'⟩, rbl⟩; have hq2 := ownsRow_of_block hq.out (fun g hg => rbl.out.block g (hq.out.lt g hg).2); obtain ⟨w5, hrun, hpost, t2, t0, t1⟩ := Hfin.out _ _ ⟨r2, r0, r1, rb'⟩ hq2; clear hq2)
      | (go_at_call 50; refine (Hsc.out _ ?_).mono ?_; (refine ⟨?_, ?_, ?_, ?_⟩ <;> assumption); rintro e w2 ⟨rfl, ⟨r2, r0, r1, rb'⟩, rbl⟩)
      | (go_at_call 37; refine (Hbc.out _ ?_).mono ?_; (refine ⟨?_, ?_, ?_, ?_⟩ <;> assumption); rintro e w2 ⟨a', l', c'', rfl, ⟨q2, q0, q1, qb⟩, hq⟩; obtain ⟨w5, hrun, hpost, t2, t0, t1⟩ := Hfin.out _ _ ⟨q2, q0, q1, qb⟩ hq.out))
  all_goals
    obtain ⟨own5, E5, h5, st5⟩ := hpost.out
    have c1 := h5.c1
    obtain ⟨c, hc⟩ := h5.fmap
    have H5 : Hid (Dev S w5 own5 db fb rb D E5 (n + 1) _) := h5
    clear t2 t0 t1 hrun hq k2 k0 k1 h5
    go_wp2_with (first
      | (at_delete; refine wpList_delete_own _ rfl _ _ 62 9 rfl 61 lawS Try.underlying62 _ fb c D rfl hc _ _ rfl hkey ?_; intro w3 hown3 hturn3)
      | fail)
    obtain ⟨h3, hsz3⟩ := H5.out.del (k := s.data.toList) (by simp [Hf.out]) hown3 hturn3
    have h3' := h3.mono (n' := n + 1) (Nat.le_refl _)
    have st3 : Step own5 own5 w5 w3 := Step.of_fr ((Fr.refl _ _).grown hturn3.grown (fun k hk _ => by injection hk with hk; subst hk; simp [H5.out.ofb]))
    refine (h3.done (by simp only; omega)).mono ?_
    rintro e w6 ⟨rfl, h6, st6⟩
    go_wp2_with fail
    go_ret
    rw [← Hsy.out] at h6
    refine ⟨rfl, own5, _, _, { h6 with cnt := ?_ }, ((st1.trans st5).trans st3).trans st6⟩
    have := H5.out.cnt
    omega

/-- Remove in one word. -/
theorem Dev.remove (h : Dev S w own db fb rb D E n m) (hcn : n ≤ 1000000000000) (ha : m.acts ≤ 1000000000000) {s : ByteArray} (hs : s.size ≤ maxLen) :
    Calls Try.prog 18 #[.pointer (some ⟨db, 0, none⟩), .string s] w fun e w' => e = .returned (.int .i64 (removeM m s.data.toList).2) ∧ ∃ own' D' E', Dev S w' own' db fb rb D' E' n (removeM m s.data.toList).1 ∧ Step own own' w w' := by
  unfold removeM
  split
  · rename_i hd
    refine (h.remove_down hd s).mono ?_
    rintro e w' ⟨rfl, h1, h2⟩
    exact ⟨rfl, own, D, E, h1, h2⟩
  · rename_i hd
    have hd' : (m.down || m.fuse == 0) = false := by simpa using hd
    split
    · rename_i hn
      refine (h.remove_bad hd' hs hn).mono ?_
      rintro e w' ⟨rfl, h1, h2⟩
      exact ⟨rfl, own, D, E, h1, h2⟩
    · rename_i hn
      have hn' : nameOk s.data.toList = true := by simpa using hn
      cases hf : m.files s.data.toList with
      | none =>
        refine (h.remove_none hd' hs hn' hf).mono ?_
        rintro e w' ⟨rfl, h1, h2⟩
        exact ⟨rfl, own, D, E, h1, h2⟩
      | some f =>
        cases hfr : f.fresh with
        | true => simpa [hfr] using h.remove_fresh hcn ha hd' hs hn' hf hfr
        | false => simpa [hfr] using h.remove_old hcn ha hd' hs hn' hf hfr

end
end Go.Proofs.Ytgkhnimdlkdaaaa
