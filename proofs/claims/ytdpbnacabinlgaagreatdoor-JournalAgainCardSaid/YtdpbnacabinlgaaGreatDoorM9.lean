/- A journal: its steps, each by its own contract. | A journal: steps in a row, as what they make of a state; a journal's state. | Whole numbers below 1024 as floats of 64 bits: sums, differences, comparisons and the way back to whole numbers are exact. | The sum of a record: rest, step, Sum. | Bytes that can be read; two bytes of a number, put and read. -/
import Derived.Test.YtdpbnacabinlgaaGreatDoorM8
import Derived.Test.YtdpbnacabinlgaaGreatDoorRows
import Derived.WalkKit
import Derived.WalkSpells
import Derived.WalkLawsBesides
import Derived.Lib.Strings
import Derived.Lib.BufferWrite
import Derived.Lib.Hide
import Derived.Laws.MakeOwn
import Derived.Maps.AppendAt
import Derived.IntWalk
import Derived.Deep.RegionHeld3
import Derived.Lib.ConvBytes
import Derived.Laws.BytesArg
import Derived.Deep.QuietTactic
import Derived.BigQuiet
import Derived.Laws.FloatArith
import Derived.ScopeJumps
import Derived.Lib.AppendStr
namespace Go.Proofs.YtdpbnacabinlgaaGreatDoor
open Go.RowKit Go.Lib Go.Maps Go.ChangeMaps Go.Sort Go.Shelf

section
variable {w w' : World} {own own' : Owner} {db fb gb jb n : Nat} {r : RDm}

theorem nameB_size {mark : List UInt8} {k : Nat} (hm : mark.length ≤ 1000) (hk : k ≤ 9223372036854775807) : (nameB mark k).size ≤ 1020 := by
  have h1 : (nameB mark k).size = (numName mark k).length := by show (numName mark k).toArray.size = _; simp
  have h3 := nDigits_le20 k (by omega)
  rw [h1]
  unfold numName
  rw [List.length_append, decDigits_length]
  omega

set_option maxHeartbeats 4000000 in
set_option maxRecDepth 100000 in
/-- The step that puts bytes behind a file's. -/
theorem LDev.put1 (h : LDev w own db fb gb n r) (hv : Vars w own) (hn : n ≤ 1000000) (ha : r.acts ≤ 1000000000000) {x0 x1 x2 x3 k c : Nat} {s : ByteArray} {a : Option Addr} {bs : List UInt8} (hs : s.size ≤ 1000) (hk : k ≤ 9223372036854775807)
    (y0 : w.cell? ⟨x0, 0, none⟩ = some (.pointer (some ⟨jb, 0, none⟩))) (y1 : w.cell? ⟨x1, 0, none⟩ = some (.string s)) (y2 : w.cell? ⟨x2, 0, none⟩ = some (.int .i64 k)) (y3 : w.cell? ⟨x3, 0, none⟩ = some (.slice a bs.length c)) (yj : w.cell? ⟨jb, 0, none⟩ = some (.pointer (some ⟨db, 0, none⟩)))
    (o0 : own x0 = none) (o1 : own x1 = none) (o2 : own x2 = none) (o3 : own x3 = none) (oj : own jb = none) (hb : BArg w own (.slice a bs.length c) bs) :
    Calls Tryz.prog 90 #[.pointer (some ⟨x0, 0, none⟩), .pointer (some ⟨x1, 0, none⟩), .pointer (some ⟨x2, 0, none⟩), .pointer (some ⟨x3, 0, none⟩)] w (LPost w own db fb gb (n + 1) (appP r (nameB s.data.toList k) bs)) := by
  have hsz : (nameB s.data.toList k).size ≤ maxLen := by
    have := nameB_size (mark := s.data.toList) (k := k) (by simpa using hs) hk
    unfold maxLen
    omega
  have HN : Hid (∀ W, Below w.heap.size w W → Calls Tryz.prog 80 #[.string s, .int .i64 k] W fun e W' => e = .returned (.string (nameB s.data.toList k)) ∧ W'.cell? ⟨x0, 0, none⟩ = some (.pointer (some ⟨jb, 0, none⟩)) ∧ W'.cell? ⟨x1, 0, none⟩ = some (.string s) ∧ W'.cell? ⟨x2, 0, none⟩ = some (.int .i64 k) ∧ W'.cell? ⟨x3, 0, none⟩ = some (.slice a bs.length c) ∧ W'.cell? ⟨jb, 0, none⟩ = some (.pointer (some ⟨db, 0, none⟩)) ∧ Below w.heap.size w W') := fun W hW => by
    refine (nameOf_calls (hv.below hW) s k hs hk).mono ?_
    rintro e W' ⟨rfl, hb2⟩
    have hW2 := hW.trans (hb2.mono hW.size)
    exact ⟨rfl, (hW2.cell (World.block_lt_of_cell? _ _ y0)).trans y0, (hW2.cell (World.block_lt_of_cell? _ _ y1)).trans y1, (hW2.cell (World.block_lt_of_cell? _ _ y2)).trans y2, (hW2.cell (World.block_lt_of_cell? _ _ y3)).trans y3, (hW2.cell (World.block_lt_of_cell? _ _ yj)).trans yj, hW2⟩
  obtain ⟨z, hz⟩ : ∃ z, appP r (nameB s.data.toList k) bs = z := ⟨_, rfl⟩
  have HA : Hid (∀ W, Below w.heap.size w W → Calls Tryz.prog 91 #[.pointer (some ⟨db, 0, none⟩), .string (nameB s.data.toList k), .slice a bs.length c] W fun e W' => e = .returned (.int .i64 z.2) ∧ W'.cell? ⟨x0, 0, none⟩ = some (.pointer (some ⟨jb, 0, none⟩)) ∧ W'.cell? ⟨x1, 0, none⟩ = some (.string s) ∧ W'.cell? ⟨x2, 0, none⟩ = some (.int .i64 k) ∧ W'.cell? ⟨x3, 0, none⟩ = some (.slice a bs.length c) ∧ W'.cell? ⟨jb, 0, none⟩ = some (.pointer (some ⟨db, 0, none⟩)) ∧ Hid (LPost w own db fb gb (n + 1) z (.returned (.int .i64 z.2)) W')) := fun W hW => by
    refine ((h.below hW).append hn ha hsz (hb.step (below_step own hW))).mono ?_
    rintro e W' ⟨rfl, own', h2, st⟩
    have st2 := (below_step own hW).trans st
    have kp : ∀ {b : Nat} {v : Value}, own b = none → w.cell? ⟨b, 0, none⟩ = some v → W'.cell? ⟨b, 0, none⟩ = some v := fun ho hv => st2.fr.cell hv (by simp [ho])
    rw [hz] at h2 ⊢
    exact ⟨rfl, kp o0 y0, kp o1 y1, kp o2 y2, kp o3 y3, kp oj yj, rfl, own', h2, st2⟩
  obtain ⟨nm, hnm⟩ : ∃ nm, nameB s.data.toList k = nm := ⟨_, rfl⟩
  rw [hz]
  rw [hnm] at HN HA
  have hb0 : Below w.heap.size w w.drew := (Below.refl _ _).drew
  obtain ⟨bl, hbl⟩ : ∃ bl, bs.length = bl := ⟨_, rfl⟩
  rw [hbl] at HN HA y3
  clear h hv hb hz hnm hbl hsz
  go_enter Tryz.func90, Tryz.ntmps90
  go_wp2_with fail
  go_region_held3 (fun W => W.cell? ⟨x0, 0, none⟩ = some (.pointer (some ⟨jb, 0, none⟩)) ∧ W.cell? ⟨x1, 0, none⟩ = some (.string s) ∧ W.cell? ⟨x2, 0, none⟩ = some (.int .i64 k) ∧ W.cell? ⟨x3, 0, none⟩ = some (.slice a bl c) ∧ W.cell? ⟨jb, 0, none⟩ = some (.pointer (some ⟨db, 0, none⟩)))
    ((refine ⟨?_, ?_, ?_, ?_, ?_⟩ <;> assumption))
    (first
      | (go_at_call 80; refine (HN.out _ (by assumption)).mono ?_; rintro e w1 ⟨rfl, z0, z1, z2, z3, zj, hb1⟩)
      | (go_at_call 91; refine (HA.out _ (by assumption)).mono ?_; rintro e w2 ⟨rfl, v0, v1, v2, v3, vj, hpost⟩))
  all_goals
    go_wp2_with fail
    go_ret
    exact hpost.out
end

section
variable {w : World} {jb db last k x0 x1 x2 : Nat} {wr nw : Bool}

set_option maxHeartbeats 4000000 in
set_option maxRecDepth 100000 in
/-- The step from which on a number is the last one. -/
theorem turn1_calls (hj : JAt w jb db last wr) (y0 : w.cell? ⟨x0, 0, none⟩ = some (.int .i64 k)) (y1 : w.cell? ⟨x1, 0, none⟩ = some (.bool nw)) (y2 : w.cell? ⟨x2, 0, none⟩ = some (.pointer (some ⟨jb, 0, none⟩))) (n0 : jb ≠ x0) (n1 : jb ≠ x1) (n2 : jb ≠ x2) :
    Calls Tryz.prog 92 #[.pointer (some ⟨x0, 0, none⟩), .pointer (some ⟨x1, 0, none⟩), .pointer (some ⟨x2, 0, none⟩)] w fun e w' => e = .returned (.int .i64 0) ∧ JAt w' jb db k nw ∧ Fr (fun b => b = jb) w w' := by
  have c0 := hj.c0
  have c1 := hj.c1
  have c2 := hj.c2
  have f1 := hj.f 1
  have f2 := hj.f 2
  have HJ := Lib.hid hj
  clear hj
  go_enter Tryz.func92, Tryz.ntmps92
  go_wp2_with fail
  go_region_held3 (fun W => W.cell? ⟨x0, 0, none⟩ = some (.int .i64 k) ∧ W.cell? ⟨x1, 0, none⟩ = some (.bool nw) ∧ W.cell? ⟨x2, 0, none⟩ = some (.pointer (some ⟨jb, 0, none⟩)))
    (go_keep)
    (fail)
  all_goals
    have hb : JAt (((w.setCell ⟨jb, 1, none⟩ (.int .i64 k)).setCell ⟨jb, 2, none⟩ (.bool nw)).drew) jb db k nw := by
      show ((w.setCell ⟨jb, 1, none⟩ (.int .i64 k)).setCell ⟨jb, 2, none⟩ (.bool nw)).heap[jb]? = _
      exact setCell_blk (setCell_blk HJ.out _) _
    have hfr : Fr (fun b => b = jb) w (((w.setCell ⟨jb, 1, none⟩ (.int .i64 k)).setCell ⟨jb, 2, none⟩ (.bool nw)).drew) := by
      have h1 : Fr (fun b => b = jb) w ((w.setCell ⟨jb, 1, none⟩ (.int .i64 k)).setCell ⟨jb, 2, none⟩ (.bool nw)) := ((Fr.refl (fun b => b = jb) w).setCell _ _ (fun _ => rfl)).setCell _ _ (fun _ => rfl)
      exact ⟨h1.os, h1.tape, h1.output, h1.size, h1.block⟩
    have HB := Lib.hid hb
    have HF := Lib.hid hfr
    clear hb hfr
    go_wp2_with fail
    go_ret
    exact ⟨rfl, HB.out, HF.out⟩

set_option maxRecDepth 100000 in
/-- put, turn, leave, numbers: each makes a closure over what was handed in. -/
theorem jput_calls (z : Int) (s : ByteArray) (a : Option Addr) (l c : Nat) :
    Calls Tryz.prog 64 #[.pointer (some ⟨jb, 0, none⟩), .string s, .int .i64 z, .slice a l c] w fun e w' => e = .returned (.func (.func 90) #[] #[.pointer (some ⟨w.heap.size, 0, none⟩), .pointer (some ⟨w.heap.size + 1, 0, none⟩), .pointer (some ⟨w.heap.size + 2, 0, none⟩), .pointer (some ⟨w.heap.size + 3, 0, none⟩)]) ∧
      (((w.alloc (.cells #[.pointer (some ⟨jb, 0, none⟩)] 31)).alloc (.cells #[.string s] 9)).alloc (.cells #[.int .i64 z] 2)).alloc (.cells #[.slice a l c] 49) = w' := by
  go_enter Tryz.func64, Tryz.ntmps64
  go_wp2_with fail
  go_ret
  exact ⟨rfl, rfl⟩

set_option maxRecDepth 100000 in
theorem jturn_calls (z : Int) :
    Calls Tryz.prog 66 #[.pointer (some ⟨jb, 0, none⟩), .int .i64 z, .bool nw] w fun e w' => e = .returned (.func (.func 92) #[] #[.pointer (some ⟨w.heap.size + 1, 0, none⟩), .pointer (some ⟨w.heap.size + 2, 0, none⟩), .pointer (some ⟨w.heap.size, 0, none⟩)]) ∧
      ((w.alloc (.cells #[.pointer (some ⟨jb, 0, none⟩)] 31)).alloc (.cells #[.int .i64 z] 2)).alloc (.cells #[.bool nw] 4) = w' := by
  go_enter Tryz.func66, Tryz.ntmps66
  go_wp2_with fail
  go_ret
  exact ⟨rfl, rfl⟩

set_option maxRecDepth 100000 in
theorem jleave_calls (a : Option Addr) (l c : Nat) :
    Calls Tryz.prog 47 #[.pointer (some ⟨db, 0, none⟩), .slice a l c] w fun e w' => e = .returned (.func (.func 76) #[] #[.pointer (some ⟨w.heap.size, 0, none⟩), .pointer (some ⟨w.heap.size + 1, 0, none⟩)]) ∧
      (w.alloc (.cells #[.pointer (some ⟨db, 0, none⟩)] 27)).alloc (.cells #[.slice a l c] 32) = w' := by
  go_enter Tryz.func47, Tryz.ntmps47
  go_wp2_with fail
  go_ret
  exact ⟨rfl, rfl⟩

set_option maxRecDepth 100000 in
theorem jnumbers_calls (s : ByteArray) :
    Calls Tryz.prog 74 #[.pointer (some ⟨db, 0, none⟩), .string s] w fun e w' => e = .returned (.func (.func 97) #[] #[.pointer (some ⟨w.heap.size, 0, none⟩), .pointer (some ⟨w.heap.size + 1, 0, none⟩)]) ∧
      (w.alloc (.cells #[.pointer (some ⟨db, 0, none⟩)] 27)).alloc (.cells #[.string s] 9) = w' := by
  go_enter Tryz.func74, Tryz.ntmps74
  go_wp2_with fail
  go_ret
  exact ⟨rfl, rfl⟩
end

section
variable {w w' : World} {own own' : Owner} {db fb gb jb last n : Nat} {r : RDm} {wr : Bool}

/-- The step that has the log stay that is written. -/
def finR (r : RDm) (wr : Bool) : RDm × Int := if wr then syncR r else (r, 0)

set_option maxRecDepth 100000 in
theorem LDev.finish (h : LDev w own db fb gb n r) (ha : r.acts ≤ 1000000000000) (hj : JAt w jb db last wr) :
    Calls Tryz.prog 65 #[.pointer (some ⟨jb, 0, none⟩)] w (LPost w own db fb gb n (finR r wr)) := by
  have c0 := hj.c0
  have c2 := hj.c2
  have HS := Lib.hid (h.sync ha)
  have H := Lib.hid h
  clear h hj
  unfold finR
  cases wr with
  | false =>
    rw [if_neg (by simp)]
    go_enter Tryz.func65, Tryz.ntmps65
    go_wp2_with fail
    go_ret
    exact ⟨rfl, own, H.out, Step.refl _ _⟩
  | true =>
    rw [if_pos rfl]
    obtain ⟨z, hz⟩ : ∃ z, syncR r = z := ⟨_, rfl⟩
    rw [hz] at HS ⊢
    clear hz
    go_enter Tryz.func65, Tryz.ntmps65
    go_wp2_with fail
    refine HS.out.mono ?_
    rintro e w1 ⟨rfl, hp⟩
    have HP := Lib.hid hp
    clear hp
    go_wp2_with fail
    go_ret
    exact ⟨rfl, HP.out⟩

set_option maxRecDepth 100000 in
/-- The step that removes a file. -/
theorem LDev.remove1 (h : LDev w own db fb gb n r) (hn : n ≤ 1000000) (ha : r.acts ≤ 1000000000000) {x0 x1 : Nat} {s : ByteArray} (hs : s.size ≤ maxLen) (y0 : w.cell? ⟨x0, 0, none⟩ = some (.pointer (some ⟨db, 0, none⟩))) (y1 : w.cell? ⟨x1, 0, none⟩ = some (.string s)) :
    Calls Tryz.prog 78 #[.pointer (some ⟨x0, 0, none⟩), .pointer (some ⟨x1, 0, none⟩)] w (LPost w own db fb gb n (removeR r s.data.toList)) := by
  have HS := Lib.hid (h.remove hn ha hs)
  obtain ⟨z, hz⟩ : ∃ z, removeR r s.data.toList = z := ⟨_, rfl⟩
  rw [hz] at HS ⊢
  clear h hz hs
  go_enter Tryz.func78, Tryz.ntmps78
  go_wp2_with fail
  refine HS.out.mono ?_
  rintro e w1 ⟨rfl, hp⟩
  have HP := Lib.hid hp
  clear hp
  go_wp2_with fail
  go_ret
  exact ⟨rfl, HP.out⟩

set_option maxRecDepth 100000 in
/-- Sync of a journal. -/
theorem LDev.jsync (h : LDev w own db fb gb n r) (ha : r.acts ≤ 1000000000000) (hj : JAt w jb db last wr) :
    Calls Tryz.prog 25 #[.pointer (some ⟨jb, 0, none⟩)] w (LPost w own db fb gb n (syncR r)) := by
  have c0 := hj.c0
  have HS := Lib.hid (h.sync ha)
  obtain ⟨z, hz⟩ : ∃ z, syncR r = z := ⟨_, rfl⟩
  rw [hz] at HS ⊢
  clear h hj hz
  go_enter Tryz.func25, Tryz.ntmps25
  go_wp2_with fail
  refine HS.out.mono ?_
  rintro e w1 ⟨rfl, hp⟩
  have HP := Lib.hid hp
  clear hp
  go_wp2_with fail
  go_ret
  exact ⟨rfl, HP.out⟩
end

end Go.Proofs.YtdpbnacabinlgaaGreatDoor
namespace Go.Proofs.YtdpbnacabinlgaaGreatDoor
open Go.RowKit Go.Lib Go.Maps Go.ChangeMaps Go.Sort Go.Shelf

/-- What steps in a row make of a state, up to the first error. -/
def seqS {σ : Type} : List (σ → σ × Int) → σ → σ × Int
  | [], x => (x, 0)
  | f :: fs, x => if (f x).2 = 0 then seqS fs (f x).1 else f x

section
variable {σ : Type} (P : Nat → World → Owner → σ → Prop) (Q : Owner → Owner → World → World → Prop)

/-- What a step leaves. -/
def SPost (k : Nat) (own : Owner) (w : World) (z : σ × Int) (e : Ending) (w' : World) : Prop := e = .returned (.int .i64 z.2) ∧ ∃ own', P k w' own' z.1 ∧ Q own own' w w'

theorem inRow_seq (hrefl : ∀ own w, Q own own w w) (htrans : ∀ {o o1 o2 a b c}, Q o o1 a b → Q o1 o2 b c → Q o o2 a c)
    (w : World) (own : Owner) (x : σ) (A : Addr) (n c : Nat) (ps : List StepV) (fs : List (σ → σ × Int)) (hn : ps.length = n) (hf : fs.length = n) (hn2 : n ≤ 1000000) (h0 : P 0 w own x)
    (hrow : ∀ W own', Q own own' w W → ∀ j p, ps[j]? = some p → W.cell? (A.add j) = some p.val) (hent : ∀ p ∈ ps, Enters Tryz.prog p.f)
    (hup : ∀ k W o y, k ≤ n → P k W o y → P n W o y)
    (hstep : ∀ k p f W o y, ps[k]? = some p → fs[k]? = some f → Q own o w W → P k W o y → Calls Tryz.prog p.f p.args W (SPost P Q (k + 1) o W (f y))) :
    Calls Tryz.prog 46 #[.slice (some A) n c] w (SPost P Q n own w (seqS fs x)) := by
  refine (inRow_calls w A n c ps hn hn2 (fun k W => ∃ o y, P k W o y ∧ Q own o w W ∧ seqS (fs.drop k) y = seqS fs x) (fun c W => c = (seqS fs x).2 ∧ ∃ o, P n W o (seqS fs x).1 ∧ Q own o w W) ⟨own, x, h0, hrefl _ _, rfl⟩
    (fun k W ⟨o, y, _, hq, _⟩ j p hp => hrow W o hq j p hp) hent ?_).mono ?_
  · rintro k p W hp ⟨o, y, hP, hQ, hs⟩
    have hkl : k < n := by have := (List.getElem?_eq_some_iff.1 hp).1; omega
    obtain ⟨f, hfk⟩ : ∃ f, fs[k]? = some f := ⟨_, List.getElem?_eq_getElem (by omega)⟩
    have hd : fs.drop k = f :: fs.drop (k + 1) := by
      obtain ⟨hk, rfl⟩ := List.getElem?_eq_some_iff.1 hfk
      exact List.drop_eq_getElem_cons hk
    rw [hd] at hs
    refine (hstep k p f W o y hp hfk hQ hP).mono ?_
    rintro e W' ⟨rfl, o', hP', hQ'⟩
    refine ⟨_, rfl, ?_⟩
    by_cases hc : (f y).2 = 0
    · refine Or.inl ⟨hc, o', _, hP', htrans hQ hQ', ?_⟩
      rw [← hs, seqS, if_pos hc]
    · refine Or.inr ⟨hc, ?_⟩
      have e1 : seqS fs x = f y := by rw [← hs, seqS, if_neg hc]
      rw [e1]
      exact ⟨rfl, o', hup _ _ _ _ (by omega) hP', htrans hQ hQ'⟩
  · rintro e w' ⟨c', rfl, h⟩
    rcases h with ⟨rfl, o, y, hP, hQ, hs⟩ | ⟨_, rfl, o, hP, hQ⟩
    · have hd : fs.drop n = [] := List.drop_eq_nil_of_le (by omega)
      rw [hd] at hs
      have hs' : seqS fs x = (y, 0) := hs.symm
      rw [hs']
      exact ⟨rfl, o, hP, hQ⟩
    · exact ⟨rfl, o, hP, hQ⟩
end

/-- A journal's state: what its device holds, its last number, whether a log is written. -/
structure JM where
  r : RDm
  last : Nat
  wr : Bool

/-- The journal's block has an owner too. -/
def jo (own : Owner) (jb : Nat) : Owner := fun b => if b = jb then some (11, []) else own b
theorem jo_none {own : Owner} {jb b : Nat} : jo own jb b = none ↔ b ≠ jb ∧ own b = none := by
  unfold jo
  by_cases h : b = jb
  · simp [h]
  · simp [h]
theorem Step.jo {own own' : Owner} {w w' : World} (jb : Nat) (h : Step own own' w w') : Step (jo own jb) (jo own' jb) w w' :=
  ⟨h.fr.mono (fun _b hb e => hb (jo_none.1 e).2), fun b hb e => jo_none.2 ⟨(jo_none.1 e).1, h.own b hb (jo_none.1 e).2⟩⟩

structure JDev (w : World) (own : Owner) (jb db fb gb n : Nat) (j : JM) : Prop where
  dev : LDev w own db fb gb n j.r
  vars : Vars w own
  jat : JAt w jb db j.last j.wr
  free : own jb = none

/-- What a journal's call leaves. -/
def JPost (w : World) (own : Owner) (jb db fb gb n : Nat) (z : JM × Int) (e : Ending) (w' : World) : Prop := e = .returned (.int .i64 z.2) ∧ ∃ own', JDev w' own' jb db fb gb n z.1 ∧ Step (jo own jb) (jo own' jb) w w'

section
variable {w w' : World} {own own' : Owner} {jb db fb gb n n' : Nat} {j : JM}

theorem JDev.below (h : JDev w own jb db fb gb n j) (hb : Below w.heap.size w w') : JDev w' own jb db fb gb n j := ⟨h.dev.below hb, h.vars.below hb, h.jat.below hb, h.free⟩
theorem JDev.mono (h : JDev w own jb db fb gb n j) (hn : n ≤ n') : JDev w own jb db fb gb n' j := ⟨h.dev.mono hn, h.vars, h.jat, h.free⟩

theorem JDev.act (h : JDev w own jb db fb gb n j) {z : RDm × Int} {e : Ending} (hp : LPost w own db fb gb n' z e w') : JPost w own jb db fb gb n' (⟨z.1, j.last, j.wr⟩, z.2) e w' := by
  obtain ⟨he, own', hd, st⟩ := hp
  exact ⟨he, own', ⟨hd, h.vars.step st, h.jat.step st h.free, st.own jb h.jat.lt h.free⟩, st.jo jb⟩

theorem JDev.turn (h : JDev w own jb db fb gb n j) {k : Nat} {nw : Bool} (hv : 2 < jb) (hj : JAt w' jb db k nw) (hf : Fr (fun b => b = jb) w w') : JDev w' own jb db fb gb n ⟨j.r, k, nw⟩ ∧ Step (jo own jb) (jo own jb) w w' := by
  have hs : Step (jo own jb) (jo own jb) w w' := ⟨hf.mono (fun b hb e => (jo_none.1 e).1 hb), fun _ _ e => e⟩
  have hl := h.vars.lt
  refine ⟨⟨h.dev.fr hf (fun b hb e => hb (by rw [e]; exact h.free)), ?_, hj, h.free⟩, hs⟩
  have h0 : Vars w (jo own jb) := ⟨h.vars.tab, h.vars.esyn, h.vars.eran, ⟨jo_none.2 ⟨by omega, h.vars.free.1⟩, jo_none.2 ⟨by omega, h.vars.free.2.1⟩, jo_none.2 ⟨by omega, h.vars.free.2.2⟩⟩, hl⟩
  have h1 := h0.step hs
  exact ⟨h1.tab, h1.esyn, h1.eran, h.vars.free, h1.lt⟩
end

/-- Blocks that are made one behind the other. -/
def allocs (w : World) : List Obj → World
  | [] => w
  | o :: os => allocs (w.alloc o) os

theorem allocs_size : ∀ (os : List Obj) (w : World), (allocs w os).heap.size = w.heap.size + os.length
  | [], w => rfl
  | o :: os, w => by
    rw [allocs, allocs_size os]
    simp
    omega
theorem allocs_below : ∀ (os : List Obj) (w : World), Below w.heap.size w (allocs w os)
  | [], w => Below.refl _ _
  | o :: os, w => ((Below.refl w.heap.size w).alloc (Nat.le_refl _) o).trans ((allocs_below os (w.alloc o)).mono (by simp))
theorem allocs_at : ∀ (os : List Obj) (w : World) (i : Nat) (o : Obj), os[i]? = some o → (allocs w os).heap[w.heap.size + i]? = some o
  | o :: os, w, 0, o', h => by
    have h' : o = o' := by simpa using h
    subst h'
    rw [allocs]
    exact ((allocs_below os (w.alloc o)).block w.heap.size (by simp)).trans (heap_alloc_new w o)
  | o :: os, w, i + 1, o', h => by
    rw [allocs]
    have := allocs_at os (w.alloc o) i o' (by simpa using h)
    rw [show (w.alloc o).heap.size = w.heap.size + 1 by simp] at this
    rw [show w.heap.size + (i + 1) = w.heap.size + 1 + i by omega]
    exact this

end Go.Proofs.YtdpbnacabinlgaaGreatDoor
namespace Go.Proofs.YtdpbnacabinlgaaGreatDoor

/-- A whole number's float. -/
def fl (n : Nat) : Nat := floatOfInt .f64 (n : Int)

def flPlace (k : Nat) : Nat := if k = 0 then 1074 else 52 - k.log2

theorem fl_read : ∀ k, k < 1024 → FloatKind.f64.format.read (fl k) = .number false (k * 2 ^ flPlace k) (-(flPlace k : Int)) := by decide +kernel

theorem flPlace_le (k : Nat) : flPlace k ≤ 1074 := by unfold flPlace; split <;> omega

theorem log2_shift (k d : Nat) (hk : 0 < k) : (k * 2 ^ d).log2 = k.log2 + d := by
  have hp : 0 < 2 ^ d := Nat.two_pow_pos d
  have h0 : k * 2 ^ d ≠ 0 := Nat.mul_ne_zero (by omega) (by omega)
  have h1 : 2 ^ k.log2 ≤ k := Nat.log2_self_le (by omega)
  have h2 : k < 2 ^ (k.log2 + 1) := Nat.lt_log2_self
  apply Nat.le_antisymm
  · have h3 : k * 2 ^ d < 2 ^ (k.log2 + d + 1) := by
      rw [show k.log2 + d + 1 = (k.log2 + 1) + d by omega, Nat.pow_add]
      exact Nat.mul_lt_mul_of_pos_right h2 hp
    have h4 := (Nat.log2_lt h0).2 h3
    omega
  · apply (Nat.le_log2 h0).2
    rw [Nat.pow_add]
    exact Nat.mul_le_mul_right _ h1

theorem cut_zero (n : Nat) : Ieee.Toward.even.cut false n 0 = n := by
  simp [Ieee.Toward.cut, Nat.mod_one]

theorem cut_exact (m e : Nat) (hm : 0 < m) : Ieee.Toward.even.cut false (m * 2 ^ e) e = m := by
  have hp : 0 < 2 ^ e := Nat.two_pow_pos e
  have hl : (m * 2 ^ e).log2 = m.log2 + e := log2_shift m e hm
  have hmin : min e ((m * 2 ^ e).log2 + 2) = e := by rw [hl]; omega
  simp only [Ieee.Toward.cut, hmin, Nat.one_shiftLeft, Nat.mul_mod_left, Nat.mul_div_cancel _ hp]
  have h1 : ¬ (2 ^ e < 2 * 0) := by omega
  have h2 : (2 ^ e == 2 * 0) = false := by simp
  simp [h2]

def flWord (k : Nat) : Nat := Ieee.double.word false (min ((k.log2 + 1022) * Ieee.double.binade + k * 2 ^ (52 - k.log2)) Ieee.double.infRung)

theorem nearest_exact (k d : Nat) (hk : 0 < k) (hk2 : k < 1024) (_hd : d ≤ 1074) : Ieee.double.nearest false (k * 2 ^ d) (-(d : Int)) = flWord k := by
  have hp : 0 < 2 ^ d := Nat.two_pow_pos d
  have h0 : k * 2 ^ d ≠ 0 := Nat.mul_ne_zero (by omega) (by omega)
  have hL : k.log2 < 10 := (Nat.log2_lt (by omega)).2 hk2
  have hl := log2_shift k d hk
  have hlp : Ieee.double.leastPlace = -1074 := by decide
  have hfb : Ieee.double.fractionBits = 52 := rfl
  unfold Ieee.Format.nearest
  rw [if_neg h0]
  simp only [hl, hlp, hfb]
  have hlast : max (-(d : Int) + ((k.log2 + d : Nat) : Int) - ((52 : Nat) : Int)) (-1074) = (k.log2 : Int) - 52 := by omega
  rw [hlast]
  have hk1 : Ieee.Toward.even.cut false ((k * 2 ^ d) <<< (-(d : Int) - ((k.log2 : Int) - 52)).toNat) ((k.log2 : Int) - 52 - -(d : Int)).toNat = k * 2 ^ (52 - k.log2) := by
    by_cases hc : d ≤ 52 - k.log2
    · have e1 : (-(d : Int) - ((k.log2 : Int) - 52)).toNat = 52 - k.log2 - d := by omega
      have e2 : ((k.log2 : Int) - 52 - -(d : Int)).toNat = 0 := by omega
      rw [e1, e2, cut_zero, Nat.shiftLeft_eq, Nat.mul_assoc, ← Nat.pow_add, show d + (52 - k.log2 - d) = 52 - k.log2 by omega]
    · have e1 : (-(d : Int) - ((k.log2 : Int) - 52)).toNat = 0 := by omega
      have e2 : ((k.log2 : Int) - 52 - -(d : Int)).toNat = d - (52 - k.log2) := by omega
      rw [e1, e2, Nat.shiftLeft_zero]
      have e3 : k * 2 ^ d = (k * 2 ^ (52 - k.log2)) * 2 ^ (d - (52 - k.log2)) := by
        rw [Nat.mul_assoc, ← Nat.pow_add, show 52 - k.log2 + (d - (52 - k.log2)) = d by omega]
      rw [e3]
      exact cut_exact _ _ (Nat.mul_pos hk (Nat.two_pow_pos _))
  rw [hk1]
  have e4 : ((k.log2 : Int) - 52 - -1074).toNat = k.log2 + 1022 := by omega
  rw [e4]
  rfl

theorem fl_write (k d : Nat) (hk2 : k < 1024) (hd : d ≤ 1074) : FloatKind.f64.format.write (.number false (k * 2 ^ d) (-(d : Int))) = fl k := by
  show Ieee.double.nearest false (k * 2 ^ d) (-(d : Int)) = Ieee.double.nearest (decide ((k : Int) < 0)) (k : Int).natAbs 0
  have e0 : decide ((k : Int) < 0) = false := by simp
  rw [e0]
  have e1 : (k : Int).natAbs = k := by omega
  rw [e1]
  by_cases hk : k = 0
  · subst hk
    simp [Ieee.Format.nearest]
  · rw [nearest_exact k d (by omega) hk2 hd]
    have h := nearest_exact k 0 (by omega) hk2 (by omega)
    simpa using h.symm

theorem signed_pos (m up : Nat) : Ieee.signed false m up = ((m * 2 ^ up : Nat) : Int) := by simp [Ieee.signed, Nat.shiftLeft_eq]
theorem signed_neg (m up : Nat) : Ieee.signed true m up = -((m * 2 ^ up : Nat) : Int) := by simp [Ieee.signed, Nat.shiftLeft_eq]

theorem up_pow (k p q : Nat) (h : p ≤ q) : k * 2 ^ p * 2 ^ (-(p : Int) - -(q : Int)).toNat = k * 2 ^ q := by
  have e : (-(p : Int) - -(q : Int)).toNat = q - p := by omega
  rw [e, Nat.mul_assoc, ← Nat.pow_add, show p + (q - p) = q by omega]

theorem fl_add (a b : Nat) (h : a + b < 1024) : floatBits .add .f64 (fl a) (fl b) = some (fl (a + b)) := by
  show ((FloatKind.f64.format.read (fl a)).sum (FloatKind.f64.format.read (fl b))).map FloatKind.f64.format.write = _
  rw [fl_read a (by omega), fl_read b (by omega)]
  have hb : min (-(flPlace a : Int)) (-(flPlace b : Int)) = -((max (flPlace a) (flPlace b) : Nat) : Int) := by omega
  have ha1 := flPlace_le a
  have hb1 := flPlace_le b
  simp only [Ieee.Datum.sum, hb, signed_pos, Option.map_some]
  rw [up_pow _ _ _ (Nat.le_max_left _ _), up_pow _ _ _ (Nat.le_max_right _ _)]
  have ht : ((a * 2 ^ max (flPlace a) (flPlace b) : Nat) : Int) + ((b * 2 ^ max (flPlace a) (flPlace b) : Nat) : Int) = (((a + b) * 2 ^ max (flPlace a) (flPlace b) : Nat) : Int) := by
    rw [← Int.natCast_add, Nat.add_mul]
  rw [ht]
  have hs : (if (((a + b) * 2 ^ max (flPlace a) (flPlace b) : Nat) : Int) = 0 then false && false else decide ((((a + b) * 2 ^ max (flPlace a) (flPlace b) : Nat) : Int) < 0)) = false := by
    split
    · rfl
    · simp only [decide_eq_false_iff_not]; exact Int.not_lt.2 (Int.natCast_nonneg _)
  rw [hs, Int.natAbs_natCast]
  rw [fl_write (a + b) _ h (by omega)]

theorem fl_sub (a b : Nat) (h : a < 1024) (hb0 : b ≤ a) : floatBits .sub .f64 (fl a) (fl b) = some (fl (a - b)) := by
  show ((FloatKind.f64.format.read (fl a)).sum (FloatKind.f64.format.read (fl b)).opposite).map FloatKind.f64.format.write = _
  rw [fl_read a (by omega), fl_read b (by omega)]
  have hb : min (-(flPlace a : Int)) (-(flPlace b : Int)) = -((max (flPlace a) (flPlace b) : Nat) : Int) := by omega
  have ha1 := flPlace_le a
  have hb1 := flPlace_le b
  simp only [Ieee.Datum.sum, Ieee.Datum.opposite, Bool.not_false, hb, signed_pos, signed_neg, Option.map_some]
  rw [up_pow _ _ _ (Nat.le_max_left _ _), up_pow _ _ _ (Nat.le_max_right _ _)]
  have hle : b * 2 ^ max (flPlace a) (flPlace b) ≤ a * 2 ^ max (flPlace a) (flPlace b) := Nat.mul_le_mul_right _ hb0
  have ht : ((a * 2 ^ max (flPlace a) (flPlace b) : Nat) : Int) + -((b * 2 ^ max (flPlace a) (flPlace b) : Nat) : Int) = (((a - b) * 2 ^ max (flPlace a) (flPlace b) : Nat) : Int) := by
    rw [Nat.sub_mul]
    omega
  rw [ht]
  have hs : (if (((a - b) * 2 ^ max (flPlace a) (flPlace b) : Nat) : Int) = 0 then false && true else decide ((((a - b) * 2 ^ max (flPlace a) (flPlace b) : Nat) : Int) < 0)) = false := by
    split
    · rfl
    · simp only [decide_eq_false_iff_not]; exact Int.not_lt.2 (Int.natCast_nonneg _)
  rw [hs, Int.natAbs_natCast]
  rw [fl_write (a - b) _ (by omega) (by omega)]

theorem fl_order (a b : Nat) (ha : a < 1024) (hb : b < 1024) : FloatKind.f64.format.order (fl a) (fl b) = some (compare (a : Int) (b : Int)) := by
  show (FloatKind.f64.format.read (fl a)).order (FloatKind.f64.format.read (fl b)) = _
  rw [fl_read a ha, fl_read b hb]
  have hb2 : min (-(flPlace a : Int)) (-(flPlace b : Int)) = -((max (flPlace a) (flPlace b) : Nat) : Int) := by omega
  simp only [Ieee.Datum.order, hb2, signed_pos]
  rw [up_pow _ _ _ (Nat.le_max_left _ _), up_pow _ _ _ (Nat.le_max_right _ _)]
  have hp : (0 : Int) < ((2 ^ max (flPlace a) (flPlace b) : Nat) : Int) := by exact_mod_cast Nat.two_pow_pos _
  congr 1
  simp only [compare, compareOfLessAndEq, Int.natCast_mul]
  by_cases h1 : (a : Int) < b
  · rw [if_pos (Int.mul_lt_mul_of_pos_right h1 hp), if_pos h1]
  · rw [if_neg (fun h => h1 (Int.lt_of_mul_lt_mul_right h (Int.le_of_lt hp))), if_neg h1]
    by_cases h2 : (a : Int) = b
    · rw [if_pos (by rw [h2]), if_pos h2]
    · rw [if_neg (fun h => h2 (Int.eq_of_mul_eq_mul_right (by omega) h)), if_neg h2]

theorem fl_geq (a b : Nat) (ha : a < 1024) (hb : b < 1024) : (FloatKind.f64.format.order (fl a) (fl b) == some .gt || FloatKind.f64.format.order (fl a) (fl b) == some .eq) = decide (b ≤ a) := by
  rw [fl_order a b ha hb]
  by_cases h1 : a < b
  · have e : compare (a : Int) (b : Int) = .lt := by simp [compare, compareOfLessAndEq, h1]
    rw [e]
    have : ¬ b ≤ a := by omega
    simp [this]
  · by_cases h2 : a = b
    · subst h2
      have e : compare (a : Int) (a : Int) = .eq := by simp [compare, compareOfLessAndEq]
      rw [e]
      simp
    · have e : compare (a : Int) (b : Int) = .gt := by
        have h3 : ¬ (a : Int) < b := by omega
        have h4 : ¬ (a : Int) = b := by omega
        simp [compare, compareOfLessAndEq, h3, h4]
      rw [e]
      have : b ≤ a := by omega
      simp [this]

theorem fl_back : ∀ k, k < 1024 → floatToIntVal .f64 (fl k) .i64 = some (k : Int) := by decide +kernel

theorem fl_one : fl 1 = 4607182418800017408 := by decide +kernel
theorem fl_251 : fl 251 = 4643035293958537216 := by decide +kernel
theorem fl_241 : fl 241 = 4642683450237648896 := by decide +kernel

end Go.Proofs.YtdpbnacabinlgaaGreatDoor
namespace Go.Proofs.YtdpbnacabinlgaaGreatDoor
open Go.RowKit Go.Lib

def flOf : Value → Nat
  | .float _ b => ((floatToIntVal .f64 b .i64).getD 0).toNat
  | _ => 0

theorem flOf_fl {k : Nat} (h : k < 1024) : flOf (.float .f64 (fl k)) = k := by
  simp only [flOf, fl_back k h, Option.getD_some]
  omega

set_option maxHeartbeats 400000 in
set_option maxRecDepth 100000 in
theorem rest_calls (x m : Nat) (w : World) (hx : x < 1024) (hm : 0 < m) (hm2 : m < 1024) :
    Calls Tryz.prog 122 #[.float .f64 (fl x), .float .f64 (fl m)] w fun e w' => e = .returned (.float .f64 (fl (x % m))) ∧ w = w' := by
  go_enter Tryz.func122, Tryz.ntmps122
  go_wp2
  go_loop [0] (fun v => ∃ k : Nat, k < 1024 ∧ v = .float .f64 (fl k) ∧ Hid (k % m = x % m)) (fun v => flOf v)
  case atStart => exact ⟨x, hx, rfl, rfl⟩
  case round =>
    obtain ⟨k, hk, rfl, Hk⟩ := hrel
    by_cases hge : m ≤ k
    · have h0 := fl_geq k m hk hm2
      have h1 : (FloatKind.f64.format.order (fl k) (fl m) == some .gt || FloatKind.f64.format.order (fl k) (fl m) == some .eq) = true := by rw [h0]; simpa using hge
      have hs : ∀ w : World, (binOp .sub 143 (.float .f64 (fl k)) (.float .f64 (fl m))).run Tryz.prog w = .ok (.float .f64 (fl (k - m))) w := fun w => run_float_arith w .sub _ .f64 _ _ _ (fl_sub k m hk hge)
      clear h0
      go_wp2
      go_round
      case rel => exact ⟨k - m, by omega, rfl, (Nat.mod_eq_sub_mod hge).symm.trans Hk.out⟩
      case measure => rw [flOf_fl (by omega), flOf_fl hk]; omega
    · have h0 := fl_geq k m hk hm2
      have h1 : (FloatKind.f64.format.order (fl k) (fl m) == some .gt || FloatKind.f64.format.order (fl k) (fl m) == some .eq) = false := by rw [h0]; simpa using hge
      have h2 : x % m = k := by rw [← Hk.out]; exact Nat.mod_eq_of_lt (by omega)
      clear h0
      have H2 := Lib.hid h2
      clear h2
      go_wp2
      go_ret
      exact ⟨congrArg (fun n => Ending.returned (.float .f64 (fl n))) H2.out.symm, rfl⟩

/-- One byte more. -/
def sumStep (p : Nat × Nat) (c : UInt8) : Nat × Nat := ((p.1 + c.toNat + 1) % 251, (p.2 + (p.1 + c.toNat + 1) % 251) % 241)

theorem sumStep_lt (p : Nat × Nat) (c : UInt8) : (sumStep p c).1 < 251 ∧ (sumStep p c).2 < 241 := ⟨Nat.mod_lt _ (by omega), Nat.mod_lt _ (by omega)⟩

set_option maxHeartbeats 1000000 in
set_option maxRecDepth 100000 in
theorem step_calls (a b : Nat) (c : UInt8) (w : World) (ha : a < 251) (hb : b < 241) :
    Calls Tryz.prog 104 #[.complex .f64 (fl a) (fl b), .int .u8 c.toNat] w fun e w' => e = .returned (.complex .f64 (fl (sumStep (a, b) c).1) (fl (sumStep (a, b) c).2)) ∧ w = w' := by
  have hc : c.toNat < 256 := c.toNat_lt
  have e1 : floatOfInt .f64 ((c.toNat : Nat) : Int) = fl c.toNat := rfl
  have hs1 : ∀ w : World, (binOp .add 143 (.float .f64 (fl a)) (.float .f64 (floatOfInt .f64 ((c.toNat : Nat) : Int)))).run Tryz.prog w = .ok (.float .f64 (fl (a + c.toNat))) w := fun w => run_float_arith w .add _ .f64 _ _ _ (fl_add a c.toNat (by omega))
  have hs2 : ∀ w : World, (binOp .add 143 (.float .f64 (fl (a + c.toNat))) (.float .f64 4607182418800017408)).run Tryz.prog w = .ok (.float .f64 (fl (a + c.toNat + 1))) w := fun w => run_float_arith w .add _ .f64 _ _ _ (fl_one ▸ fl_add (a + c.toNat) 1 (by omega))
  have hr1 := rest_calls (a + c.toNat + 1) 251 w (by omega) (by omega) (by omega)
  rw [fl_251] at hr1
  obtain ⟨a', ha'⟩ : ∃ a', a' = (a + c.toNat + 1) % 251 := ⟨_, rfl⟩
  have hal : a' < 251 := by rw [ha']; exact Nat.mod_lt _ (by omega)
  have hs3 : ∀ w : World, (binOp .add 143 (.float .f64 (fl b)) (.float .f64 (fl a'))).run Tryz.prog w = .ok (.float .f64 (fl (b + a'))) w := fun w => run_float_arith w .add _ .f64 _ _ _ (fl_add b a' (by omega))
  have hr2 := rest_calls (b + a') 241 w (by omega) (by omega) (by omega)
  rw [fl_241] at hr2
  have e2 : sumStep (a, b) c = (a', (b + a') % 241) := by rw [ha']; rfl
  rw [e2]
  rw [← ha'] at hr1
  clear ha' e2 e1
  go_enter Tryz.func104, Tryz.ntmps104
  go_wp2_with fail
  refine hr1.mono ?_
  rintro e w1 ⟨rfl, rfl⟩
  go_wp2_with fail
  refine hr2.mono ?_
  rintro e w1 ⟨rfl, rfl⟩
  go_wp2_with fail
  go_ret
  exact ⟨rfl, rfl⟩

/-- Both numbers of a sum. -/
def sumP (l : List UInt8) : Nat × Nat := l.foldl sumStep (1, 1)
/-- A record's sum. -/
def sumN (l : List UInt8) : Nat := (sumP l).1 + 256 * (sumP l).2

theorem sumP_nil : sumP [] = (1, 1) := rfl
theorem sumP_snoc (l : List UInt8) (c : UInt8) : sumP (l ++ [c]) = sumStep (sumP l) c := by simp [sumP, List.foldl_append]
theorem foldl_lt : ∀ (l : List UInt8) (p : Nat × Nat), p.1 < 251 ∧ p.2 < 241 → (l.foldl sumStep p).1 < 251 ∧ (l.foldl sumStep p).2 < 241
  | [], _, h => h
  | c :: l, p, _ => foldl_lt l (sumStep p c) (sumStep_lt p c)
theorem sumP_lt (l : List UInt8) : (sumP l).1 < 251 ∧ (sumP l).2 < 241 := foldl_lt l (1, 1) ⟨by decide, by decide⟩
theorem sumN_lt (l : List UInt8) : sumN l < 65536 := by
  have := sumP_lt l
  unfold sumN
  omega

theorem take_snoc (s : ByteArray) (k : Nat) (h : k < s.size) : s.data.toList.take (k + 1) = s.data.toList.take k ++ [s[k]] := by
  rw [List.take_succ_eq_append_getElem (by simpa using h)]; rfl

set_option maxHeartbeats 1000000 in
set_option maxRecDepth 100000 in
theorem sum_calls (s : ByteArray) (w : World) (hs : s.size ≤ maxLen) :
    Calls Tryz.prog 89 #[.string s] w fun e w' => e = .returned (.int .i64 (sumN s.data.toList)) ∧ w = w' := by
  unfold maxLen at hs
  go_enter Tryz.func89, Tryz.ntmps89
  go_wp2
  refine wp_scope_jumps 0 (fun a' w' => w = w' ∧ ∃ (k a b : Nat) (u5 u6 u7 u8 u9 u10 u11 u12 u13 u14 u15 : Value), a' = { tmps := #[.string s, undef, .int .i64 0, .complex .f64 (fl a) (fl b), .int .i64 k, u5, u6, u7, u8, u9, u10, u11, u12, u13, u14, u15, undef, undef, undef, undef, undef, undef, undef, undef], defers := [] } ∧ k ≤ s.size ∧ Hid (sumP (s.data.toList.take k) = (a, b)) ∧ a < 251 ∧ b < 241) (fun a' _ => s.size - (intOf (a'.tmps.getD 4 undef)).toNat) rfl ?_ ?_
  · by_cases hlt : 0 < s.size
    · have hst := step_calls 1 1 s[0] w (by omega) (by omega)
      rw [fl_one] at hst
      have hp : sumP (s.data.toList.take 1) = ((sumStep (1, 1) s[0]).1, (sumStep (1, 1) s[0]).2) := by rw [take_snoc s 0 hlt, sumP_snoc]; rfl
      have Hp := Lib.hid hp
      have hl := sumStep_lt (1, 1) s[0]
      obtain ⟨hl1, hl2⟩ := hl
      clear hp
      go_wp2
      go_step3
      go_wp2_with fail
      refine hst.mono ?_
      rintro e w1 ⟨rfl, rfl⟩
      go_wp2_with fail
      go_step3
      exact ⟨rfl, rfl, 1, _, _, _, _, _, _, _, _, _, _, _, _, _, rfl, by omega, Hp, hl1, hl2⟩
    · have h0 : s.data.toList = [] := by
        have : s.data.toList.length = s.size := by simp
        exact List.eq_nil_of_length_eq_zero (by omega)
      have hn : sumN s.data.toList = 257 := by rw [h0]; rfl
      have hb : ∀ w : World, (convert 143 3 (.float .f64 4607182418800017408)).run Tryz.prog w = .ok (.int .i64 1) w := fun w => run_convert_float_int w _ _ _ .i64 _ _ (by kernel_rfl) Tryz.underlying3 (fl_one ▸ fl_back 1 (by omega))
      have Hn := Lib.hid hn
      clear hn h0
      go_wp2
      go_step3
      go_wp2
      simp only [Exit.jump]
      go_ret
      exact ⟨congrArg (fun n : Nat => Ending.returned (.int .i64 n)) Hn.out.symm, rfl⟩
  · rintro a' w' ⟨rfl, k, a, b, u5, u6, u7, u8, u9, u10, u11, u12, u13, u14, u15, rfl, hk, Hp, ha, hb⟩
    by_cases hlt : k < s.size
    · have hst := step_calls a b s[k] w ha hb
      have hp : sumP (s.data.toList.take (k + 1)) = ((sumStep (a, b) s[k]).1, (sumStep (a, b) s[k]).2) := by rw [take_snoc s k hlt, sumP_snoc, Hp.out]
      have Hp1 := Lib.hid hp
      have hl := sumStep_lt (a, b) s[k]
      obtain ⟨hl1, hl2⟩ := hl
      clear hp
      go_wp2_with fail
      refine hst.mono ?_
      rintro e w1 ⟨rfl, rfl⟩
      go_wp2_with fail
      go_step3
      refine ⟨rfl, ⟨rfl, k + 1, _, _, _, _, _, _, _, _, _, _, _, _, _, rfl, by omega, Hp1, hl1, hl2⟩, ?_⟩
      simp [intOf]
      omega
    · obtain rfl : k = s.size := by omega
      have hn : sumN s.data.toList = a + 256 * b := by
        have h1 := Hp.out
        rw [List.take_of_length_le (by simp)] at h1
        unfold sumN
        rw [h1]
      have hb1 : ∀ w : World, (convert 143 3 (.float .f64 (fl a))).run Tryz.prog w = .ok (.int .i64 a) w := fun w => run_convert_float_int w _ _ _ .i64 _ _ (by kernel_rfl) Tryz.underlying3 (fl_back a (by omega))
      have hb2 : ∀ w : World, (convert 143 3 (.float .f64 (fl b))).run Tryz.prog w = .ok (.int .i64 b) w := fun w => run_convert_float_int w _ _ _ .i64 _ _ (by kernel_rfl) Tryz.underlying3 (fl_back b (by omega))
      have Hn := Lib.hid hn
      clear hn
      go_wp2
      simp only [Exit.jump]
      go_ret
      exact ⟨by rw [Hn.out]; go_num, rfl⟩

end Go.Proofs.YtdpbnacabinlgaaGreatDoor
namespace Go.Proofs.YtdpbnacabinlgaaGreatDoor
open Go.RowKit Go.Lib

theorem infoB8 : (Tryz.prog.info? 5).map (fun i => (i.zero, i.size, i.bytes)) = some (some (.int .u8 0), 1, 1) := by kernel_rfl

/-- Bytes that can be read. -/
def BRow (w : World) (v : Value) (bs : List UInt8) : Prop :=
  ∃ a c, v = .slice a bs.length c ∧ bs.length ≤ c ∧ c ≤ maxLen ∧ (a = none → c = 0) ∧ ∀ j x, bs[j]? = some x → ∃ A, a = some A ∧ w.cell? (A.add j) = some (.int .u8 x.toNat)

theorem fadd_block (a : Addr) (n : Nat) : (a.add n).block = a.block := by unfold Addr.add; split <;> rfl
theorem BRow.below {w w' : World} {v : Value} {bs : List UInt8} (h : BRow w v bs) (hb : Below w.heap.size w w') : BRow w' v bs := by
  obtain ⟨a, c, h1, h2, h3, h4, h5⟩ := h
  refine ⟨a, c, h1, h2, h3, h4, fun j x hj => ?_⟩
  obtain ⟨A, e1, e2⟩ := h5 j x hj
  exact ⟨A, e1, (hb.cell (World.block_lt_of_cell? _ _ e2)).trans e2⟩

theorem fcell_of_blk {w : World} {b k : Nat} {cs : Array Value} {e : TypeId} {fr : Nat × Nat} (h : w.heap[b]? = some (.cells cs e fr)) {v : Value} (hv : cs[k]? = some v) : w.cell? ⟨b, k, none⟩ = some v := by simp [World.cell?, h, hv]

theorem ret_num {k : IntKind} {a b : Int} (h : a = b) : Ending.returned (.int k a) = .returned (.int k b) := by rw [h]

theorem ofNat_toNat {n : Nat} (h : n < 256) : (UInt8.ofNat n).toNat = n := by simp; omega

set_option maxHeartbeats 1000000 in
set_option maxRecDepth 100000 in
theorem pairTo_calls (w : World) (B l : Nat) (v : Value) (xs : List UInt8) (n : Nat) (hn : n < 65536) (hown : w.ownsRow B 5 1 v l (byteCells xs)) (hl : l ≤ 10000) (hB : B ≤ w.heap.size) :
    Calls Tryz.prog 88 #[v, .int .i64 n] w fun e w' => ∃ v', e = .returned v' ∧ w'.ownsRow B 5 1 v' (l + 2) (byteCells (xs ++ [UInt8.ofNat (n / 256), UInt8.ofNat (n % 256)])) ∧ Below B w w' := by
  obtain ⟨i0, hi, hz0, hz1, hz2⟩ := info_parts infoB8
  have Hown := Lib.hid hown
  have hlt := Lib.hid hown.lt
  clear hown
  go_enter Tryz.func88, Tryz.ntmps88
  go_wp2_with (first
    | (at_builtin; refine wpList_append_own _ rfl (.tmp 5) (.tmp 11) 49 rfl B 5 i0 (.int .u8 0) 1 1 Tryz.underlying49 hi hz0 hz1 hz2 rfl (by decide) _ _ _ rfl (Hown.out.alloc _) ⟨w.heap.size, 0, none⟩ 2 2 (byteCells [UInt8.ofNat (n / 256), UInt8.ofNat (n % 256)]) rfl rfl ?c1 (byteCells_one _) (by unfold maxLen; omega) (by omega) (by simp; omega) ?_))
  case c1 =>
    intro j u hu
    have hadd : (⟨w.heap.size, 0, none⟩ : Addr).add j = ⟨w.heap.size, j, none⟩ := by unfold Addr.add; split <;> simp_all
    rw [hadd]
    refine fcell_of_blk (heap_alloc_new w _) ?_
    match j, hu with
    | 0, hu => simp [byteCells] at hu; subst hu; simp; omega
    | 1, hu => simp [byteCells] at hu; subst hu; simp
  intro v' w1 hown' hgrow hnil
  go_wp2
  go_ret
  exact ⟨_, rfl, by simpa [byteCells] using hown', ((Below.refl _ _).alloc hB _).grown hgrow (by simp; omega) (fun k hk => (hlt.out k hk).1)⟩

set_option maxHeartbeats 1000000 in
set_option maxRecDepth 100000 in
theorem pair_calls (w : World) (b o : Nat) (l c x y : Nat) (hl : 2 ≤ l) (hx : w.cell? ⟨b, o, none⟩ = some (.int .u8 x)) (hy : w.cell? ⟨b, o + 1, none⟩ = some (.int .u8 y)) (hx2 : x < 256) (hy2 : y < 256) :
    Calls Tryz.prog 103 #[.slice (some ⟨b, o, none⟩) l c] w fun e w' => e = .returned (.int .i64 (256 * x + y : Nat)) ∧ ∃ n, w' = w.drewN n := by
  have h0 : 0 < l := by omega
  have h1 : 1 < l := by omega
  have h0' : (0 : Int) < l := by omega
  have h1' : (1 : Int) < l := by omega
  go_enter Tryz.func103, Tryz.ntmps103
  go_wp2
  go_quiet (fail)
  go_wp2
  go_ret
  exact ⟨ret_num (by omega), _, rfl⟩

theorem cells_new (w : World) (bs : List UInt8) (cs : Array Value) (t : TypeId) (fr : Nat × Nat) (h : cs.toList = byteCells bs) : ∀ j u, (byteCells bs)[j]? = some u → (w.alloc (.cells cs t fr)).cell? ((⟨w.heap.size, 0, none⟩ : Addr).add j) = some u := by
  intro j u hu
  have hadd : (⟨w.heap.size, 0, none⟩ : Addr).add j = ⟨w.heap.size, j, none⟩ := by unfold Addr.add; split <;> simp_all
  rw [hadd]
  refine fcell_of_blk (heap_alloc_new w _) ?_
  rw [← h] at hu
  simpa using hu

/-- A record's frame. -/
def frameB (l : List UInt8) : List UInt8 := [82] ++ [UInt8.ofNat (l.length / 256), UInt8.ofNat (l.length % 256)] ++ [UInt8.ofNat (sumN l / 256), UInt8.ofNat (sumN l % 256)] ++ l

theorem frameB_length (l : List UInt8) : (frameB l).length = l.length + 5 := by simp [frameB]

/-- What Put gives. -/
def putB (l : List UInt8) : List UInt8 := if 4096 < l.length then [] else frameB l

set_option maxHeartbeats 1000000 in
set_option maxRecDepth 100000 in
theorem put_calls (s : ByteArray) (w : World) (hs : s.size ≤ maxLen) :
    Calls Tryz.prog 62 #[.string s] w fun e w' => ∃ v, e = .returned v ∧ w'.ownsRow w.heap.size 5 1 v (putB s.data.toList).length (byteCells (putB s.data.toList)) ∧ Below w.heap.size w w' := by
  have hs' := hs
  unfold maxLen at hs
  have hsl : s.data.toList.length = s.size := by simp
  by_cases hbig : 4096 < s.size
  · have hp : putB s.data.toList = [] := if_pos (by omega)
    rw [hp]
    clear hp hsl
    go_enter Tryz.func62, Tryz.ntmps62
    go_wp2
    go_ret
    exact ⟨_, rfl, World.ownsRow_nil _ _ _ _, Below.refl _ _⟩
  · have hp : putB s.data.toList = frameB s.data.toList := if_neg (by omega)
    rw [hp]
    have hfl : (frameB s.data.toList).length = s.size + 5 := by rw [frameB_length, hsl]
    rw [hfl]
    have hsn := sumN_lt s.data.toList
    have Hsl := Lib.hid hsl
    have hstr : strCells s = byteCells s.data.toList := rfl
    have Hstr := Lib.hid hstr
    have hs2 : s.size ≤ 4096 := by omega
    obtain ⟨i0, hi, hz0, hz1, hz2⟩ := info_parts infoB8
    clear hp hfl hsl hstr hbig
    go_enter Tryz.func62, Tryz.ntmps62
    go_wp2_with (first
      | (at_make; refine wpList_make_own _ rfl _ _ 49 rfl w.heap.size 5 i0 (.int .u8 0) 1 Tryz.underlying49 hi hz0 hz1 .i64 .i64 _ (5 + s.size) rfl rfl (by omega) (by rw [hz2]; omega) (by unfold maxLen; omega) (Nat.le_refl _) ?_; intro w1 hown1 hgrow1)
      | (at_builtin; refine wpList_append_own _ rfl (.tmp 11) (.tmp 12) 49 rfl w.heap.size 5 i0 (.int .u8 0) 1 1 Tryz.underlying49 hi hz0 hz1 hz2 rfl (by decide) _ _ _ rfl (hown1.alloc _) ⟨w1.heap.size, 0, none⟩ 1 1 (byteCells [82]) rfl rfl (cells_new w1 [82] _ _ _ rfl) (byteCells_one _) (by unfold maxLen; omega) (by omega) (by have := hgrow1.size; simp; omega) ?_; intro v2 w2 hown2 hgrow2 hnil2))
    have hb2 : Below w.heap.size w w2 := (((Below.refl _ w).grown hgrow1 (Nat.le_refl _) (fun k hk => by cases hk)).alloc hgrow1.size _).grown hgrow2 (by have := hgrow1.size; simp; omega) (fun k hk => by injection hk with hk; rw [← hk]; exact Nat.le_refl _)
    have HB2 := Lib.hid hb2
    have h2 : w2.ownsRow w.heap.size 5 1 v2 1 (byteCells [82]) := by simpa using hown2
    have HO2 := Lib.hid h2
    clear hown1 hgrow1 hown2 hgrow2 hnil2 hb2 h2
    go_wp2_with fail
    refine (pairTo_calls w2 w.heap.size 1 v2 [82] s.size (by omega) HO2.out (by omega) HB2.out.size).mono ?_
    rintro e w3 ⟨v3, rfl, hown3, hb3⟩
    have HO3 := Lib.hid hown3
    have HB3 := Lib.hid (HB2.out.trans hb3)
    clear hown3 hb3 HO2 HB2
    go_wp2_with fail
    refine (sum_calls s w3 hs').mono ?_
    rintro e w4 ⟨rfl, rfl⟩
    go_wp2_with fail
    refine (pairTo_calls w3 w.heap.size _ v3 _ (sumN s.data.toList) hsn HO3.out (by omega) HB3.out.size).mono ?_
    rintro e w5 ⟨v5, rfl, hown5, hb5⟩
    have HO5 := Lib.hid hown5
    have HB5 := Lib.hid (HB3.out.trans hb5)
    clear hown5 hb5 HO3 HB3
    go_wp2_with (first
      | (at_builtin; refine wpList_append_own_string _ rfl (.tmp 22) (.tmp 23) 49 9 rfl w.heap.size 5 i0 Tryz.underlying49 Tryz.underlying9 hi hz0 hz1 hz2 _ _ _ rfl HO5.out s rfl (by unfold maxLen; omega) (by omega) HB5.out.size ?_; intro v6 w6 hown6 hgrow6 hnil6))
    go_wp2
    go_ret
    refine ⟨_, rfl, ?_, HB5.out.grown hgrow6 HB5.out.size (fun k hk => (HO5.out.lt k hk).1)⟩
    rw [Hstr.out] at hown6
    have e1 : frameB s.data.toList = [82] ++ [UInt8.ofNat (s.size / 256), UInt8.ofNat (s.size % 256)] ++ [UInt8.ofNat (sumN s.data.toList / 256), UInt8.ofNat (sumN s.data.toList % 256)] ++ s.data.toList := by
      unfold frameB; rw [Hsl.out]
    rw [e1, show s.size + 5 = 1 + 2 + 2 + s.size by omega]
    simpa [byteCells] using hown6

end Go.Proofs.YtdpbnacabinlgaaGreatDoor
