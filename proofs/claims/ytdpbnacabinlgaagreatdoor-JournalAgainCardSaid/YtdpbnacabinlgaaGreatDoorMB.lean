/- A journal: the names of the files that stay. | A journal: which files stay; all others are removed. | A journal: the step that removes all files but those that stay. | A journal: the iterator of numbers. -/
import Derived.Test.YtdpbnacabinlgaaGreatDoorMA
import Derived.RangeFuncNested
import Derived.RangeFuncBound
import Derived.RangeFuncCalls
import Derived.RangeFuncLeaves
import Derived.Shelf.RegionOpen
import Derived.OwnWalkIn
import Derived.TacticsInMore
import Derived.LoopNIn
import Derived.LoopIn
namespace Go.Proofs.YtdpbnacabinlgaaGreatDoor
open Go.RowKit Go.Lib Go.Maps Go.ChangeMaps Go.Sort Go.Shelf

/-- A row of numbers in memory. -/
def IRow (w : World) (a : Option Addr) (ns : List Nat) : Prop := ∀ (j n : Nat), ns[j]? = some n → ∃ A : Addr, a = some A ∧ w.cell? (A.add j) = some (.int .i64 (n : Int))
theorem IRow.below {w w' : World} {a : Option Addr} {ns : List Nat} (h : IRow w a ns) (hb : Below w.heap.size w w') : IRow w' a ns := fun j n hj => by
  obtain ⟨A, h1, h2⟩ := h j n hj
  exact ⟨A, h1, (hb.cell (World.block_lt_of_cell? _ _ h2)).trans h2⟩
theorem IRow.nil (w : World) (a : Option Addr) : IRow w a [] := fun j n hj => by simp at hj

/-- The names of a picture's file and of logs. -/
def staysL (at_ : Nat) (logs : List Nat) : List (List UInt8) := (if 0 < at_ then [numName snapM at_] else []) ++ logs.map (numName logM)

section
variable {w : World} {own : Owner}

set_option maxHeartbeats 4000000 in
set_option maxRecDepth 100000 in
theorem stays_calls (hv : Vars w own) {a : Option Addr} {c at_ : Nat} {logs : List Nat} (hrow : IRow w a logs) (hl : logs.length ≤ 9000) (hle : ∀ n ∈ logs, n ≤ 9223372036854775807) (hat : at_ ≤ 9223372036854775807) :
    Calls Tryz.prog 48 #[.int .i64 at_, .slice a logs.length c] w fun e w' => ∃ v, e = .returned v ∧ w'.ownsRow w.heap.size 9 1 v (staysL at_ logs).length (recCells (staysL at_ logs)) ∧ Below w.heap.size w w' := by
  obtain ⟨i0, hi, hz0, hz1, hz2⟩ := info_parts infoS16
  have HV := Lib.hid hv
  have HR := Lib.hid hrow
  have HLE : Hid (∀ n ∈ logs, n ≤ 9223372036854775807) := hle
  obtain ⟨q, hq⟩ : ∃ q, logs.length = q := ⟨_, rfl⟩
  have Hq := Lib.hid hq
  rw [hq] at hl ⊢
  by_cases h0 : 0 < at_
  rotate_left
  · obtain ⟨pre, hpre⟩ : ∃ pre : List (List UInt8), pre = [] := ⟨_, rfl⟩
    have HPRE : Hid (pre ++ logs.map (numName logM) = staysL at_ logs) := by show _ = _; unfold staysL; rw [if_neg h0, hpre]
    have hpl : pre.length ≤ 1 := by rw [hpre]; exact Nat.zero_le _
    have HO0 : Hid (w.ownsRow w.heap.size 9 1 (.slice none 0 0) pre.length (recCells pre)) := by rw [hpre]; exact World.ownsRow_nil _ _ _ _
    have HB0 : Hid (Below w.heap.size w w) := Below.refl _ _
    have hd : decide ((0 : Int) < (at_ : Int)) = false := by simp; omega
    have hd2 : decide (0 < at_) = false := by simp; omega
    clear hv hrow hle hq hpre h0
    go_enter Tryz.func48, Tryz.ntmps48
    go_wp2_with fail
    go_loopw [5, 17] (fun v i wr => ∃ k : Nat, k ≤ q ∧ i = .int .i64 k ∧ Hid (wr.ownsRow w.heap.size 9 1 v (pre ++ (logs.take k).map (numName logM)).length (recCells (pre ++ (logs.take k).map (numName logM)))) ∧ Hid (Below w.heap.size w wr)) (fun _ i _ => q - (intOf i).toNat)
    case atStart => exact ⟨0, Nat.zero_le _, rfl, by rw [List.take_zero, List.map_nil, List.append_nil]; exact HO0.out, HB0.out⟩
    case round =>
      obtain ⟨k, hk, rfl, HO, HB⟩ := hrel
      by_cases hlt : k < q
      · obtain ⟨x, hx⟩ : ∃ x, logs[k]? = some x := ⟨_, List.getElem?_eq_getElem (by rw [Hq.out]; exact hlt)⟩
        have HX := Lib.hid hx
        obtain ⟨A, rfl, c0⟩ := (HR.out.below HB.out) k x hx
        have HNX := Lib.hid (nameOf_calls (HV.out.below HB.out) ⟨#[108, 111, 103, 45]⟩ x (by decide) (HLE.out x (List.mem_of_getElem? hx)))
        have hk0 : (0 : Int) ≤ (k : Int) := by omega
        have hk1 : (k : Int) < (q : Int) := by omega
        clear hx
        go_wp2_with fail
        refine HNX.out.mono ?_
        rintro e w1 ⟨rfl, hb1⟩
        have HO1 := Lib.hid ((ownsRow_of_block HO.out (fun g hg => hb1.block g (HO.out.lt g hg).2)).alloc (.cells #[.string (strB (numName logM x))] 9))
        have HB1 : Hid (Below w.heap.size w (w1.alloc (.cells #[.string (strB (numName logM x))] 9))) := (HB.out.trans (hb1.mono HB.out.size)).alloc (Nat.le_trans HB.out.size hb1.size) _
        have hcnt : (pre ++ (logs.take k).map (numName logM)).length + 1 ≤ 10000 := by
          rw [List.length_append, List.length_map, List.length_take]
          omega
        have hnm : nameB (⟨#[108, 111, 103, 45]⟩ : ByteArray).data.toList x = strB (numName logM x) := rfl
        rw [hnm]
        have hlt2 := Lib.hid HO.out.lt
        clear hb1 hnm
        go_wp2_with (first
          | (at_builtin; refine wpList_append_own _ rfl (.tmp 21) (.tmp 24) 32 rfl w.heap.size 9 i0 (.string .empty) 1 16 Tryz.underlying32 hi hz0 hz1 hz2 rfl (by decide) _ _ _ rfl HO1.out ⟨w1.heap.size, 0, none⟩ 1 1 (recCells [numName logM x]) rfl rfl (vals_new w1 _ _ _ _ rfl) (recCells_one _) (by unfold maxLen; omega) (by omega) HB1.out.size ?_; intro v2 w2 hown2 hgrow2 hnil2))
        have HB2 := Lib.hid (HB1.out.grown hgrow2 HB1.out.size (fun q hq => (HO1.out.lt q hq).1))
        have hown3 : w2.ownsRow w.heap.size 9 1 v2 (pre ++ (logs.take (k + 1)).map (numName logM)).length (recCells (pre ++ (logs.take (k + 1)).map (numName logM))) := by
          have e1 : (logs.take (k + 1)).map (numName logM) = (logs.take k).map (numName logM) ++ [numName logM x] := by rw [List.take_add_one, HX.out]; simp
          rw [e1, ← List.append_assoc, List.length_append]
          have h1 := hown2
          have e2 : recCells (pre ++ (logs.take k).map (numName logM) ++ [numName logM x]) = recCells (pre ++ (logs.take k).map (numName logM)) ++ recCells [numName logM x] := by simp [recCells]
          rw [e2]
          exact h1
        have HO2 := Lib.hid hown3
        clear hown2 hgrow2 hnil2 hown3 hlt2 HO1 HB1
        go_wp2_with fail
        go_roundw
        case rel => exact ⟨k + 1, by omega, by go_num, HO2, HB2⟩
        case measure => simp [intOf]; omega
      · have hfin : logs.take k = logs := by rw [show k = q by omega, ← Hq.out]; exact List.take_length
        rw [hfin] at HO
        clear hfin
        go_wp2_with fail
        go_ret
        exact ⟨_, rfl, by rw [← HPRE.out]; exact HO.out, HB.out⟩

  · obtain ⟨pre, hpre⟩ : ∃ pre : List (List UInt8), pre = [numName snapM at_] := ⟨_, rfl⟩
    have HPRE : Hid (pre ++ logs.map (numName logM) = staysL at_ logs) := by show _ = _; unfold staysL; rw [if_pos h0, hpre]
    have hpl : pre.length ≤ 1 := by rw [hpre]; exact Nat.le_refl _
    have Hpre := Lib.hid hpre
    have HNS := Lib.hid (nameOf_calls hv ⟨#[115, 110, 97, 112, 45]⟩ at_ (by decide) hat)
    have hd : decide ((0 : Int) < (at_ : Int)) = true := by simp; omega
    have hd2 : decide (0 < at_) = true := by simp; omega
    clear hv hrow hle hq hpre h0
    go_enter Tryz.func48, Tryz.ntmps48
    go_wp2_with fail
    refine HNS.out.mono ?_
    rintro e w9 ⟨rfl, hb9⟩
    have hnm9 : nameB (⟨#[115, 110, 97, 112, 45]⟩ : ByteArray).data.toList at_ = strB (numName snapM at_) := rfl
    rw [hnm9]
    have HO9 : Hid ((w9.alloc (.cells #[.string (strB (numName snapM at_))] 9)).ownsRow w.heap.size 9 1 (.slice none 0 0) 0 []) := World.ownsRow_nil _ _ _ _
    have HB9 : Hid (Below w.heap.size w (w9.alloc (.cells #[.string (strB (numName snapM at_))] 9))) := hb9.alloc hb9.size _
    clear hb9 hnm9
    go_wp2_with (first
      | (at_builtin; refine wpList_append_own _ rfl (.tmp 10) (.tmp 13) 32 rfl w.heap.size 9 i0 (.string .empty) 1 16 Tryz.underlying32 hi hz0 hz1 hz2 rfl (by decide) _ _ _ rfl HO9.out ⟨w9.heap.size, 0, none⟩ 1 1 (recCells [numName snapM at_]) rfl rfl (vals_new w9 _ _ _ _ rfl) (recCells_one _) (by unfold maxLen; omega) (by omega) HB9.out.size ?_; intro v8 w8 hown8 hgrow8 hnil8))
    have HB0 := Lib.hid (HB9.out.grown hgrow8 HB9.out.size (fun q hq => (HO9.out.lt q hq).1))
    have HO0 : Hid (w8.ownsRow w.heap.size 9 1 v8 pre.length (recCells pre)) := by rw [Hpre.out]; exact hown8
    clear hown8 hgrow8 hnil8 HO9 HB9
    go_wp2_with fail
    go_loopw [5, 17] (fun v i wr => ∃ k : Nat, k ≤ q ∧ i = .int .i64 k ∧ Hid (wr.ownsRow w.heap.size 9 1 v (pre ++ (logs.take k).map (numName logM)).length (recCells (pre ++ (logs.take k).map (numName logM)))) ∧ Hid (Below w.heap.size w wr)) (fun _ i _ => q - (intOf i).toNat)
    case atStart => exact ⟨0, Nat.zero_le _, rfl, by rw [List.take_zero, List.map_nil, List.append_nil]; exact HO0.out, HB0.out⟩
    case round =>
      obtain ⟨k, hk, rfl, HO, HB⟩ := hrel
      by_cases hlt : k < q
      · obtain ⟨x, hx⟩ : ∃ x, logs[k]? = some x := ⟨_, List.getElem?_eq_getElem (by rw [Hq.out]; exact hlt)⟩
        have HX := Lib.hid hx
        obtain ⟨A, rfl, c0⟩ := (HR.out.below HB.out) k x hx
        have HNX := Lib.hid (nameOf_calls (HV.out.below HB.out) ⟨#[108, 111, 103, 45]⟩ x (by decide) (HLE.out x (List.mem_of_getElem? hx)))
        have hk0 : (0 : Int) ≤ (k : Int) := by omega
        have hk1 : (k : Int) < (q : Int) := by omega
        clear hx
        go_wp2_with fail
        refine HNX.out.mono ?_
        rintro e w1 ⟨rfl, hb1⟩
        have HO1 := Lib.hid ((ownsRow_of_block HO.out (fun g hg => hb1.block g (HO.out.lt g hg).2)).alloc (.cells #[.string (strB (numName logM x))] 9))
        have HB1 : Hid (Below w.heap.size w (w1.alloc (.cells #[.string (strB (numName logM x))] 9))) := (HB.out.trans (hb1.mono HB.out.size)).alloc (Nat.le_trans HB.out.size hb1.size) _
        have hcnt : (pre ++ (logs.take k).map (numName logM)).length + 1 ≤ 10000 := by
          rw [List.length_append, List.length_map, List.length_take]
          omega
        have hnm : nameB (⟨#[108, 111, 103, 45]⟩ : ByteArray).data.toList x = strB (numName logM x) := rfl
        rw [hnm]
        have hlt2 := Lib.hid HO.out.lt
        clear hb1 hnm
        go_wp2_with (first
          | (at_builtin; refine wpList_append_own _ rfl (.tmp 21) (.tmp 24) 32 rfl w.heap.size 9 i0 (.string .empty) 1 16 Tryz.underlying32 hi hz0 hz1 hz2 rfl (by decide) _ _ _ rfl HO1.out ⟨w1.heap.size, 0, none⟩ 1 1 (recCells [numName logM x]) rfl rfl (vals_new w1 _ _ _ _ rfl) (recCells_one _) (by unfold maxLen; omega) (by omega) HB1.out.size ?_; intro v2 w2 hown2 hgrow2 hnil2))
        have HB2 := Lib.hid (HB1.out.grown hgrow2 HB1.out.size (fun q hq => (HO1.out.lt q hq).1))
        have hown3 : w2.ownsRow w.heap.size 9 1 v2 (pre ++ (logs.take (k + 1)).map (numName logM)).length (recCells (pre ++ (logs.take (k + 1)).map (numName logM))) := by
          have e1 : (logs.take (k + 1)).map (numName logM) = (logs.take k).map (numName logM) ++ [numName logM x] := by rw [List.take_add_one, HX.out]; simp
          rw [e1, ← List.append_assoc, List.length_append]
          have h1 := hown2
          have e2 : recCells (pre ++ (logs.take k).map (numName logM) ++ [numName logM x]) = recCells (pre ++ (logs.take k).map (numName logM)) ++ recCells [numName logM x] := by simp [recCells]
          rw [e2]
          exact h1
        have HO2 := Lib.hid hown3
        clear hown2 hgrow2 hnil2 hown3 hlt2 HO1 HB1
        go_wp2_with fail
        go_roundw
        case rel => exact ⟨k + 1, by omega, by go_num, HO2, HB2⟩
        case measure => simp [intOf]; omega
      · have hfin : logs.take k = logs := by rw [show k = q by omega, ← Hq.out]; exact List.take_length
        rw [hfin] at HO
        clear hfin
        go_wp2_with fail
        go_ret
        exact ⟨_, rfl, by rw [← HPRE.out]; exact HO.out, HB.out⟩

end

end Go.Proofs.YtdpbnacabinlgaaGreatDoor
namespace Go.Proofs.YtdpbnacabinlgaaGreatDoor
open Go.RowKit Go.Lib Go.Maps Go.ChangeMaps Go.Sort Go.Shelf
open Go.Proofs (encStr)

/-- A row of texts in a block of its own. -/
def NameRow (w : World) (own : Owner) (a : Option Addr) (st : List (List UInt8)) : Prop := (st = []) ∨ ∃ g, a = some ⟨g, 0, none⟩ ∧ own g = none ∧ ∀ (j : Nat) (x : List UInt8), st[j]? = some x → w.cell? ⟨g, j, none⟩ = some (.string (strB x))

theorem NameRow.step {w w' : World} {own own' : Owner} {a : Option Addr} {st : List (List UInt8)} (h : NameRow w own a st) (hs : Step own own' w w') : NameRow w' own' a st := by
  rcases h with h | ⟨g, h1, h2, h3⟩
  · exact Or.inl h
  · cases st with
    | nil => exact Or.inl rfl
    | cons x xs =>
      have hlt := World.block_lt_of_cell? _ _ (h3 0 x rfl)
      exact Or.inr ⟨g, h1, hs.own g hlt h2, fun j y hj => hs.fr.cell (h3 j y hj) (by simp [h2])⟩

theorem NameRow.of_owns {w : World} {own : Owner} {B : Nat} {v : Value} {st : List (List UInt8)} (h : w.ownsRow B 9 1 v st.length (recCells st)) (ho : ∀ b, B ≤ b → own b = none) : ∃ a c, v = .slice a st.length c ∧ NameRow w own a st := by
  have hc := fun g hg => h.cells (g := g) hg
  rcases h.2 with ⟨rfl, h0⟩ | ⟨g, cap, cur, rfl, hB, _⟩
  · exact ⟨none, 0, by rw [h0], Or.inl (List.eq_nil_of_length_eq_zero h0)⟩
  · refine ⟨_, cap, rfl, Or.inr ⟨g, rfl, ho g hB, fun j x hj => ?_⟩⟩
    have h1 := hc g rfl j (.string (strB x)) (by simp [recCells, hj])
    have hadd : (⟨g, 0, none⟩ : Addr).add j = ⟨g, j, none⟩ := by unfold Addr.add; split <;> simp_all
    rw [hadd] at h1
    exact h1

theorem contains_calls {w : World} {own : Owner} {a : Option Addr} {st : List (List UInt8)} (h : NameRow w own a st) (hl : st.length ≤ 1000000) (c : Nat) (x : List UInt8) :
    Calls Tryz.prog 77 #[.slice a st.length c, .string (strB x)] w fun e w' => e = .returned (.bool (decide (x ∈ st))) ∧ w' = w := by
  rcases h with rfl | ⟨g, rfl, _, h⟩
  · refine (Tryz.slices_Contains_string_empty a c (strB x) w).mono ?_
    rintro e w' ⟨rfl, rfl⟩
    exact ⟨by simp, rfl⟩
  · refine (Tryz.slices_Contains_string g 0 st.length c (st.map strB) (strB x) w (by simp) (by omega) (fun j hj => ?_)).mono ?_
    · rw [List.length_map] at hj
      rw [Nat.zero_add, h j st[j] (List.getElem?_eq_getElem hj)]
      simp [List.getD, hj]
    · rintro e w' ⟨rfl, rfl⟩
      refine ⟨?_, rfl⟩
      have e1 : containsS ((st.map strB).take st.length) (strB x) = decide (x ∈ st) := by
        rw [List.take_of_length_le (by simp)]
        rw [Bool.eq_iff_iff, containsS_iff, decide_eq_true_eq, List.mem_map]
        exact ⟨fun ⟨y, hy, e⟩ => by rw [← strB_inj e]; exact hy, fun h => ⟨x, h, rfl⟩⟩
      rw [e1]

theorem inRow_nil (w : World) : Calls Tryz.prog 46 #[.slice none 0 0] w fun e w' => e = .returned (.int .i64 0) ∧ w' = w := by
  go_enter Tryz.func46, Tryz.ntmps46
  go_wp2_with fail
  refine wp_loop_rounds 1 ?_
  rw [rounds_succ]
  go_wp2
  go_ret
  exact ⟨rfl, rfl⟩

/-- The names that don't stay. -/
def dropL (r : RDm) (st : List (List UInt8)) : List (List UInt8) := (r.L.map RF.nm).filter (fun x => !decide (x ∈ st))
/-- All files but those that stay are removed, in plain words. -/
def leaveR (r : RDm) (st : List (List UInt8)) : RDm × Int := seqS ((dropL r st).map fun nm r => removeR r nm) r

def clos (x0 b : Nat) : StepV := ⟨78, #[], #[.pointer (some ⟨x0, 0, none⟩), .pointer (some ⟨b, 0, none⟩)]⟩
def closCells (x0 : Nat) (bxs : List Nat) : List Value := bxs.map fun b => (clos x0 b).val
theorem closCells_one (x0 : Nat) (bxs : List Nat) : ∀ u ∈ closCells x0 bxs, u.oneCell' = true := by
  intro u hu
  obtain ⟨b, _, rfl⟩ := List.mem_map.1 hu
  rfl
theorem infoStep : (Tryz.prog.info? 47).map (fun i => (i.zero, i.size, i.bytes)) = some (some .nilFunc, 1, 8) := by kernel_rfl

/-- A device behind some removals. -/
def LK (db fb gb n : Nat) (a : Int) (k : Nat) (w : World) (own : Owner) (r : RDm) : Prop := LDev w own db fb gb n r ∧ r.acts ≤ a + k

/-- The names of blocks. -/
def Boxed (w : World) (B : Nat) (bxs : List Nat) (nms : List (List UInt8)) : Prop := bxs.length = nms.length ∧ ∀ (j b : Nat) (x : List UInt8), bxs[j]? = some b → nms[j]? = some x → B ≤ b ∧ w.heap[b]? = some (.cells #[.string (strB x)] 9 (0, 0))
theorem Boxed.below {w w' : World} {B : Nat} {bxs : List Nat} {nms : List (List UInt8)} (h : Boxed w B bxs nms) (hb : Below w.heap.size w w') : Boxed w' B bxs nms := ⟨h.1, fun j b x h1 h2 => by
  obtain ⟨h3, h4⟩ := h.2 j b x h1 h2
  exact ⟨h3, (hb.block b (Array.getElem?_eq_some_iff.1 h4).1).trans h4⟩⟩
theorem Boxed.grown {w w' : World} {B B' n : Nat} {v : Value} {xs : List Value} {bxs : List Nat} {nms : List (List UInt8)} (h : Boxed w B bxs nms) (hrow : w.ownsRow B' 47 1 v n xs) (hg : w.grownBy w' v.ownBlock) : Boxed w' B bxs nms := ⟨h.1, fun j b x h1 h2 => by
  obtain ⟨h3, h4⟩ := h.2 j b x h1 h2
  have hne : v.ownBlock ≠ some b := fun e => by
    rcases hrow.2 with ⟨rfl, _⟩ | ⟨g, cap, cur, rfl, _, hh, _⟩
    · simp [Value.ownBlock] at e
    · simp [Value.ownBlock] at e
      rw [← e, hh] at h4
      injection h4 with h4
      injection h4 with _ h4
      exact absurd h4 (by decide)
  exact ⟨h3, (hg.block b (Array.getElem?_eq_some_iff.1 h4).1 (Ne.symm hne)).trans h4⟩⟩

theorem nm_size {w : World} {own : Owner} {db fb gb n : Nat} {r : RDm} (h : LDev w own db fb gb n r) : ∀ x ∈ r.L.map RF.nm, x.length ≤ maxLen := by
  intro x hx
  obtain ⟨f, hf, rfl⟩ := List.mem_map.1 hx
  obtain ⟨D, E, m, h1, h2, h3, h9⟩ := h
  have := (nameOk_len (h9.1 f hf)).2
  unfold maxLen
  omega

section
variable {w : World} {own : Owner} {db fb gb n : Nat} {r : RDm}

theorem LDev.row_gone (h : LDev w own db fb gb n r) (hn : n ≤ 1000000) (ha : r.acts ≤ 900000000000) {x0 : Nat} (y0 : w.cell? ⟨x0, 0, none⟩ = some (.pointer (some ⟨db, 0, none⟩))) (o0 : own x0 = none) {B : Nat} (hB : ∀ b, B ≤ b → own b = none) {v : Value} {bxs : List Nat} {nms : List (List UInt8)}
    (hrow : w.ownsRow B 47 1 v bxs.length (closCells x0 bxs)) (hbx : Boxed w B bxs nms) (hl : nms.length ≤ 1000000) (hsz : ∀ x ∈ nms, x.length ≤ maxLen) :
    Calls Tryz.prog 46 #[v] w (LPost w own db fb gb n (seqS (nms.map fun nm r => removeR r nm) r)) := by
  rcases hrow.2 with ⟨rfl, h0⟩ | ⟨g, cap, cur, rfl, hg, hh, _⟩
  · have e1 : nms = [] := List.eq_nil_of_length_eq_zero (by rw [← hbx.1]; exact h0)
    subst e1
    refine (inRow_nil w).mono ?_
    rintro e w' ⟨rfl, rfl⟩
    exact ⟨rfl, own, h, Step.refl _ _⟩
  · have hcells := fun j u hu => hrow.cells (g := g) rfl j u hu
    have hgn := hB g hg
    refine (inRow_seq (LK db fb gb n r.acts) Step Step.refl Step.trans w own r ⟨g, 0, none⟩ bxs.length cap (bxs.map (clos x0)) (nms.map fun nm r => removeR r nm) (by simp) (by simp [hbx.1]) (by rw [hbx.1]; exact hl) ⟨h, by omega⟩
      (fun W o hq j p hp => ?_) (fun p hp => ?_) (fun k W o y hk hp => ⟨hp.1, by have := hp.2; omega⟩) ?_).mono ?_
    · refine hq.fr.cell (hcells j p.val ?_) (by rw [add_block]; simp [hgn])
      rw [List.getElem?_map] at hp
      unfold closCells
      rw [List.getElem?_map]
      cases hb : bxs[j]? with
      | none => rw [hb] at hp; cases hp
      | some b => rw [hb] at hp; injection hp with hp; rw [← hp]; rfl
    · obtain ⟨b, _, rfl⟩ := List.mem_map.1 hp
      exact ent_leave11
    · intro k p f W o y hp hf hQ hP
      rw [List.getElem?_map] at hp hf
      cases hb : bxs[k]? with
      | none => rw [hb] at hp; cases hp
      | some b =>
        cases hx : nms[k]? with
        | none => rw [hx] at hf; cases hf
        | some x =>
          rw [hb] at hp
          rw [hx] at hf
          injection hp with hp
          injection hf with hf
          subst hp
          subst hf
          obtain ⟨hbB, hbb⟩ := hbx.2 k b x hb hx
          have hbc : w.cell? ⟨b, 0, none⟩ = some (.string (strB x)) := cell_of_blk hbb rfl
          have hkl : k < nms.length := (List.getElem?_eq_some_iff.1 hx).1
          have hac := hP.2
          have hsx : (strB x).size ≤ maxLen := by rw [strB_size]; exact hsz x (List.mem_of_getElem? hx)
          have hc := hP.1.remove1 hn (by omega) hsx (hQ.fr.cell y0 (by simp [o0])) (hQ.fr.cell hbc (by simp [hB b hbB]))
          rw [strB_list] at hc
          refine hc.mono ?_
          rintro e w' ⟨rfl, own', hd, st⟩
          exact ⟨rfl, own', ⟨hd, by have := removeR_acts y x; show (removeR y x).1.acts ≤ _; omega⟩, st⟩
    · rintro e w' ⟨rfl, own', hp, hq⟩
      exact ⟨rfl, own', hp.1, hq⟩
end

end Go.Proofs.YtdpbnacabinlgaaGreatDoor
namespace Go.Proofs.YtdpbnacabinlgaaGreatDoor
open Go.RowKit Go.Lib Go.Maps Go.ChangeMaps Go.Sort Go.Shelf
open Go.Proofs (encStr)

theorem filter_take_no {xs : List (List UInt8)} {p : List UInt8 → Bool} {k : Nat} {x : List UInt8} (h : xs[k]? = some x) (hp : p x = false) : (xs.take (k + 1)).filter p = (xs.take k).filter p := by
  rw [List.take_add_one, h, List.filter_append]
  simp [hp]
theorem filter_take_yes {xs : List (List UInt8)} {p : List UInt8 → Bool} {k : Nat} {x : List UInt8} (h : xs[k]? = some x) (hp : p x = true) : (xs.take (k + 1)).filter p = (xs.take k).filter p ++ [x] := by
  rw [List.take_add_one, h, List.filter_append]
  simp [hp]

theorem Boxed.snoc {w : World} {B b : Nat} {bxs : List Nat} {nms : List (List UInt8)} {x : List UInt8} (h : Boxed w B bxs nms) (hb : B ≤ b) (hc : w.heap[b]? = some (.cells #[.string (strB x)] 9 (0, 0))) : Boxed w B (bxs ++ [b]) (nms ++ [x]) := by
  refine ⟨by rw [List.length_append, List.length_append, h.1]; rfl, fun j b' x' h1 h2 => ?_⟩
  rcases Nat.lt_or_ge j bxs.length with hj | hj
  · rw [List.getElem?_append_left hj] at h1
    rw [List.getElem?_append_left (by rw [← h.1]; exact hj)] at h2
    exact h.2 j b' x' h1 h2
  · rw [List.getElem?_append_right hj] at h1
    rw [List.getElem?_append_right (by rw [← h.1]; exact hj)] at h2
    have hj0 : j - bxs.length = 0 := by
      have := (List.getElem?_eq_some_iff.1 h1).1
      simp at this
      omega
    rw [hj0] at h1
    rw [← h.1, hj0] at h2
    simp at h1 h2
    subst h1
    subst h2
    exact ⟨hb, hc⟩

section
variable {w : World} {own : Owner} {db fb gb n : Nat} {r : RDm}

set_option maxHeartbeats 4000000 in
set_option maxRecDepth 100000 in
theorem LDev.leave1 (h : LDev w own db fb gb n r) (hn : n ≤ 1000000) (ha : r.acts ≤ 900000000000) (hq : r.L.length ≤ 100000) {x0 x1 sc : Nat} {sa : Option Addr} {st : List (List UInt8)} (y0 : w.cell? ⟨x0, 0, none⟩ = some (.pointer (some ⟨db, 0, none⟩))) (y1 : w.cell? ⟨x1, 0, none⟩ = some (.slice sa st.length sc)) (o0 : own x0 = none)
    (hst : NameRow w own sa st) (hsl : st.length ≤ 1000000) :
    Calls Tryz.prog 76 #[.pointer (some ⟨x0, 0, none⟩), .pointer (some ⟨x1, 0, none⟩)] w (LPost w own db fb gb n (leaveR r st)) := by
  obtain ⟨i0, hi, hz0, hz1, hz2⟩ := info_parts infoStep
  obtain ⟨z, hz⟩ : ∃ z, leaveR r st = z := ⟨_, rfl⟩
  rw [hz]
  have HZ := Lib.hid hz
  have HNM := Lib.hid (h.names hn)
  have H := Lib.hid h
  have HST := Lib.hid hst
  have Y0 := Lib.hid y0
  have Y1 := Lib.hid y1
  obtain ⟨sl, hsl2⟩ : ∃ sl, st.length = sl := ⟨_, rfl⟩
  have HSL := Lib.hid hsl2
  rw [hsl2] at y1 hsl
  obtain ⟨q, hql⟩ : ∃ q, r.L.length = q := ⟨_, rfl⟩
  have HQ := Lib.hid hql
  rw [hql] at hq HNM
  clear h hz hst hsl2 hql
  go_enter Tryz.func76, Tryz.ntmps76
  go_wp2_with fail
  refine HNM.out.mono ?_
  rintro e w1 ⟨na, nc, rfl, hnr, _, hb1⟩
  have HNR := Lib.hid hnr
  have HB1 := Lib.hid hb1
  clear hnr hb1 y0 y1
  go_wp2_with fail
  go_loopw [3, 9] (fun v i wr => ∃ (k : Nat) (bxs : List Nat), k ≤ q ∧ i = .int .i64 k ∧ Hid (wr.ownsRow w1.heap.size 47 1 v bxs.length (closCells x0 bxs)) ∧ Hid (Boxed wr w1.heap.size bxs (((r.L.map RF.nm).take k).filter (fun x => !decide (x ∈ st)))) ∧ Hid (Below w1.heap.size w1 wr)) (fun _ i _ => q - (intOf i).toNat)
  case atStart => exact ⟨0, [], Nat.zero_le _, rfl, World.ownsRow_nil _ _ _ _, ⟨rfl, fun j b x h1 => by simp at h1⟩, Below.refl _ _⟩
  case round =>
    obtain ⟨k, bxs, hk, rfl, HO, HX, HB⟩ := hrel
    have HBW := Lib.hid (HB1.out.trans (HB.out.mono HB1.out.size))
    have y0 := (HBW.out.cell (World.block_lt_of_cell? _ _ Y0.out)).trans Y0.out
    have y1 := (HBW.out.cell (World.block_lt_of_cell? _ _ Y1.out)).trans Y1.out
    rw [HSL.out] at y1
    by_cases hlt : k < q
    · obtain ⟨x, hx⟩ : ∃ x, (r.L.map RF.nm)[k]? = some x := ⟨_, List.getElem?_eq_getElem (by rw [List.length_map, HQ.out]; exact hlt)⟩
      have HXX := Lib.hid hx
      obtain ⟨ad, rfl, _, hg⟩ := (HNR.out.step (below_step _ HB.out)) k x hx
      have g0 : wr.cell? (ad.add k) = some (.string (strB x)) := hg
      have hk0 : (0 : Int) ≤ (k : Int) := by omega
      have hk1 : (k : Int) < (q : Int) := by omega
      have HC := Lib.hid (contains_calls (HST.out.step ((below_step own HBW.out).trans (below_step own ((Below.refl wr.heap.size wr).alloc (Nat.le_refl _) (.cells #[.string (strB x)] 9))))) (by rw [HSL.out]; exact hsl) sc x)
      rw [HSL.out] at HC
      have HO1 := Lib.hid (HO.out.alloc (.cells #[.string (strB x)] 9))
      have HB2 := Lib.hid (HB.out.alloc HB.out.size (.cells #[.string (strB x)] 9))
      have HX1 := Lib.hid (HX.out.below ((Below.refl wr.heap.size wr).alloc (Nat.le_refl _) (.cells #[.string (strB x)] 9)))
      have y2 := (((Below.refl wr.heap.size wr).alloc (Nat.le_refl _) (.cells #[.string (strB x)] 9)).cell (World.block_lt_of_cell? _ _ y1)).trans y1
      have hcnt : bxs.length ≤ 100000 := by
        have h8 := HX.out.1
        have h9 := List.length_filter_le (fun x => !decide (x ∈ st)) ((r.L.map RF.nm).take k)
        have h10 := List.length_take_le k (r.L.map RF.nm)
        omega
      clear hx hg
      by_cases hm : x ∈ st
      · have e1 : decide (x ∈ st) = true := decide_eq_true hm
        rw [e1] at HC
        have HX2 : Hid (Boxed (wr.alloc (.cells #[.string (strB x)] 9)) w1.heap.size bxs (((r.L.map RF.nm).take (k + 1)).filter (fun x => !decide (x ∈ st)))) := by
          show Boxed _ _ _ _
          rw [filter_take_no HXX.out (by rw [e1]; rfl)]
          exact HX1.out
        clear e1 hm
        go_wp2_with fail
        refine HC.out.mono ?_
        rintro e w2 ⟨rfl, rfl⟩
        go_wp2_with fail
        go_roundw
        case rel => exact ⟨k + 1, bxs, by omega, by go_num, HO1, HX2, HB2⟩
        case measure => simp [intOf]; omega
      · have e1 : decide (x ∈ st) = false := decide_eq_false hm
        rw [e1] at HC
        have HX2 : Hid (Boxed (wr.alloc (.cells #[.string (strB x)] 9)) w1.heap.size (bxs ++ [wr.heap.size]) (((r.L.map RF.nm).take (k + 1)).filter (fun x => !decide (x ∈ st)))) := by
          show Boxed _ _ _ _
          rw [filter_take_yes HXX.out (by rw [e1]; rfl)]
          exact HX1.out.snoc HB.out.size (heap_alloc_new wr _)
        have HO3 := Lib.hid (HO1.out.alloc (.cells #[(clos x0 wr.heap.size).val] 47))
        have HB3 := Lib.hid (HB2.out.alloc HB2.out.size (.cells #[(clos x0 wr.heap.size).val] 47))
        have hA : ∀ j u, (closCells x0 [wr.heap.size])[j]? = some u → ((wr.alloc (.cells #[.string (strB x)] 9)).alloc (.cells #[(clos x0 wr.heap.size).val] 47)).cell? ((⟨wr.heap.size + 1, 0, none⟩ : Addr).add j) = some u := by
          have h4 := vals_new (wr.alloc (.cells #[.string (strB x)] 9)) (closCells x0 [wr.heap.size]) #[(clos x0 wr.heap.size).val] 47 (0, 0) rfl
          intro j u hu
          have h5 := h4 j u hu
          simpa using h5
        have HA := Lib.hid hA
        clear e1 hm hA
        go_wp2_with fail
        refine HC.out.mono ?_
        rintro e w2 ⟨rfl, rfl⟩
        go_wp2_with (first
          | (at_builtin; refine wpList_append_own _ rfl (.tmp 17) (.tmp 19) 126 rfl w1.heap.size 47 i0 .nilFunc 1 8 Tryz.underlying126 hi hz0 hz1 hz2 rfl (by decide) _ _ _ rfl HO3.out ⟨wr.heap.size + 1, 0, none⟩ 1 1 (closCells x0 [wr.heap.size]) rfl rfl HA.out (closCells_one _ _) (by unfold maxLen; omega) (by omega) HB3.out.size ?_; intro v3 w3 hown3 hgrow3 hnil3))
        have HB4 := Lib.hid (HB3.out.grown hgrow3 HB3.out.size (fun q hq => (HO3.out.lt q hq).1))
        have HO4 : Hid (w3.ownsRow w1.heap.size 47 1 v3 (bxs ++ [wr.heap.size]).length (closCells x0 (bxs ++ [wr.heap.size]))) := by
          show w3.ownsRow _ _ _ _ _ _
          rw [List.length_append]
          have h5 := hown3
          have e2 : closCells x0 (bxs ++ [wr.heap.size]) = closCells x0 bxs ++ closCells x0 [wr.heap.size] := by simp [closCells]
          rw [e2]
          exact h5
        have HX3 := Lib.hid ((HX2.out.below ((Below.refl _ (wr.alloc (.cells #[.string (strB x)] 9))).alloc (Nat.le_refl _) (.cells #[(clos x0 wr.heap.size).val] 47))).grown HO3.out hgrow3)
        clear hown3 hgrow3 hnil3 HO3 HB3 HA
        go_wp2_with fail
        go_roundw
        case rel => exact ⟨k + 1, bxs ++ [wr.heap.size], by omega, by go_num, HO4, HX3, HB4⟩
        case measure => simp [intOf]; omega
    · have hfin : (r.L.map RF.nm).take k = r.L.map RF.nm := by rw [show k = q by omega, ← HQ.out]; exact List.take_of_length_le (by simp)
      rw [hfin] at HX
      have hrow := (H.out.below HBW.out).row_gone hn ha (Y0.out |> fun h => (HBW.out.cell (World.block_lt_of_cell? _ _ h)).trans h) o0 (B := w1.heap.size) (fun b hb => H.out.old b (Nat.le_trans HB1.out.size hb)) HO.out HX.out (by
        have h9 := List.length_filter_le (fun x => !decide (x ∈ st)) (r.L.map RF.nm)
        rw [List.length_map, HQ.out] at h9
        omega) (fun x hx => nm_size H.out x (List.mem_filter.1 hx).1)
      have e1 : seqS (((r.L.map RF.nm).filter (fun x => !decide (x ∈ st))).map fun nm r => removeR r nm) r = z := HZ.out
      rw [e1] at hrow
      have HROW := Lib.hid hrow
      clear hrow e1 hfin
      go_wp2_with fail
      refine HROW.out.mono ?_
      rintro e w4 ⟨rfl, own', hd, hs⟩
      have HD := Lib.hid hd
      have HS := Lib.hid ((below_step own HBW.out).trans hs)
      clear hd hs
      go_wp2_with fail
      go_ret
      exact ⟨rfl, own', HD.out, HS.out⟩
end

end Go.Proofs.YtdpbnacabinlgaaGreatDoor
namespace Go.Proofs.YtdpbnacabinlgaaGreatDoor
open Go.RowKit Go.Lib Go.Maps Go.ChangeMaps Go.Sort Go.Shelf
open Go.Proofs (encStr)

attribute [local go_sem] Oper.semAt_some

/-- A number of a file. -/
abbrev I63 := { x : Nat // 1 ≤ x ∧ x ≤ 9223372036854775807 }
def numI (mark nm : List UInt8) : Option I63 :=
  if h : 1 ≤ numOf mark nm ∧ numOf mark nm ≤ 9223372036854775807 then some ⟨(numOf mark nm).toNat, by omega, by omega⟩ else none
/-- The numbers of all files of a mark, as their names rise. -/
def numsL (r : RDm) (mark : List UInt8) : List I63 := (r.L.map RF.nm).filterMap (numI mark)

theorem numI_none {mark nm : List UInt8} (h : numI mark nm = none) : numOf mark nm = 0 := by
  unfold numI at h
  split at h
  · cases h
  · rename_i h1
    rcases numOf_cases mark nm with h2 | ⟨n, h2, h3, h4, _⟩
    · exact h2
    · exact absurd ⟨by omega, by omega⟩ h1
theorem numI_some {mark nm : List UInt8} {x : I63} (h : numI mark nm = some x) : numOf mark nm = (x.1 : Nat) ∧ nm = numName mark x.1 := by
  unfold numI at h
  split at h
  · rename_i h1
    injection h with h
    subst h
    refine ⟨by show _ = (((numOf mark nm).toNat : Nat) : Int); omega, ?_⟩
    rcases numOf_cases mark nm with h2 | ⟨n, h2, h3, h4, h5⟩
    · omega
    · show nm = numName mark (numOf mark nm).toNat
      rw [h4]
      exact h5
  · cases h

/-- What a round keeps: cells, but for those of the blocks T. -/
def KpT (T : Nat → Obj → Prop) (W W' : World) : Prop := W.heap.size ≤ W'.heap.size ∧ ∀ (b : Nat) (o : Obj), W.heap[b]? = some o → o.isCells = true → ¬ T b o → W'.heap[b]? = some o
theorem KpT.refl (T : Nat → Obj → Prop) (W : World) : KpT T W W := ⟨Nat.le_refl _, fun _ _ h _ _ => h⟩
theorem KpT.trans {T : Nat → Obj → Prop} {A B C : World} (h : KpT T A B) (k : KpT T B C) : KpT T A C := ⟨Nat.le_trans h.1 k.1, fun b o hb ho hT => k.2 b o (h.2 b o hb ho hT) ho hT⟩
theorem KpT.of_below {T : Nat → Obj → Prop} {W W' : World} (h : Below W.heap.size W W') : KpT T W W' := ⟨h.size, fun b _o hb _ _ => (h.block b (Array.getElem?_eq_some_iff.1 hb).1).trans hb⟩
theorem KpT.cell {T : Nat → Obj → Prop} {W W' : World} (h : KpT T W W') {p : Addr} {v : Value} (hp : W.cell? p = some v) (hT : ∀ o, W.heap[p.block]? = some o → ¬ T p.block o) : W'.cell? p = some v := by
  obtain ⟨o, ho, hc⟩ := cells_of_cell hp
  exact (World.cell?_of_block ((h.2 _ o ho hc (hT o ho)).trans ho.symm)).trans hp

theorem Vars.kp {w w' : World} {own : Owner} {T : Nat → Obj → Prop} (h : Vars w own) (hk : KpT T w w') (hT : ∀ b o, b ≤ 2 → ¬ T b o) : Vars w' own := by
  have k : ∀ {n : String} {g : Nat} {cs : Array Value}, Tryz.prog.globalNamed n = some g → g ≤ 2 → w.var? Tryz.prog n = some cs → w'.var? Tryz.prog n = some cs := fun {n g cs} hg hg2 hv => by
    have hv2 := hv
    simp only [World.var?, hg, Option.bind_some] at hv2
    cases ho : w.heap[g]? with
    | none => rw [ho] at hv2; cases hv2
    | some o =>
      cases o with
      | cells cs' t fr => rw [var_same hg ((hk.2 g _ ho rfl (hT g _ hg2)).trans ho.symm)]; exact hv
      | _ => rw [ho] at hv2; cases hv2
  obtain ⟨t1, p1, h1⟩ := h.esyn
  obtain ⟨t2, p2, h2⟩ := h.eran
  exact ⟨k gTab (by omega) h.tab, ⟨t1, p1, k gSyn (by omega) h1⟩, ⟨t2, p2, k gRan (by omega) h2⟩, h.free, Nat.lt_of_lt_of_le h.lt hk.1⟩

theorem LDev.len_le {w : World} {own : Owner} {db fb gb n : Nat} {r : RDm} (h : LDev w own db fb gb n r) : r.L.length ≤ n := by
  obtain ⟨D, E, m, h1, h2, h3, h9⟩ := h
  have h4 := h1.cnt
  rw [(h2.count h1 h3).1] at h4
  omega

theorem grown_of_below {w w' : World} (h : Below w.heap.size w w') : w.grownBy w' none := ⟨h.os, h.tape, h.output, h.size, fun k hk _ => h.block k hk⟩

set_option maxRecDepth 100000 in
set_option maxHeartbeats 4000000 in
theorem numbers1_in {W : World} {own : Owner} {db fb gb nn : Nat} {r : RDm} (h : LDev W own db fb gb nn r) (hv : Vars W own) (hnn : nn ≤ 1000000) (n : Nat) (hn : 1 ≤ n) (l : Nat) (T : Nat → Obj → Prop) {x0 x1 : Nat} {s : ByteArray} (hs : s.size ≤ 1000)
    (y0 : W.cell? ⟨x0, 0, none⟩ = some (.pointer (some ⟨db, 0, none⟩))) (y1 : W.cell? ⟨x1, 0, none⟩ = some (.string s)) (hT1 : ∀ o, W.heap[x1]? = some o → ¬ T x1 o) (hTv : ∀ b o, b ≤ 2 → ¬ T b o) (hTn : ∀ b cs fr, W.heap.size ≤ b → ¬ T b (.cells cs 9 fr))
    (J Jx : List I63 → World → Prop) (hJ : AbidesFrom W.heap.size J)
    (hY : ∀ pre (x : I63) W1, J pre W1 → pre.length < (numsL r s.data.toList).length → YieldAt Fence.wide (n - 1) Tryz.prog l #[.int .i64 (x.1 : Nat)] W1 fun e W' =>
      (e = .returned (.bool true) ∧ J (pre ++ [x]) W' ∧ KpT T W1 W') ∨ (e = .returned (.bool false) ∧ Jx (pre ++ [x]) W')) (h0 : J [] W) :
    CallsIn Fence.wide n Tryz.prog 97 #[.func (.yield l) #[] #[], .pointer (some ⟨x0, 0, none⟩), .pointer (some ⟨x1, 0, none⟩)] W fun e W' => (∃ v, e = .returned v) ∧
      ((∃ ys, ys = numsL r s.data.toList ∧ J ys W') ∨ (∃ pre, pre <+: numsL r s.data.toList ∧ Jx pre W')) := by
  have HNM := Lib.hid (h.names hnn)
  have hql := h.len_le
  obtain ⟨q, hq⟩ : ∃ q, r.L.length = q := ⟨_, rfl⟩
  have HQ := Lib.hid hq
  rw [hq] at HNM hql
  have HV := Lib.hid hv
  have HD := Lib.hid h
  have Y1 := Lib.hid y1
  have HJ := Lib.hid hJ
  have HY := Lib.hid hY
  have H0 : Hid (J [] W) := h0
  clear h hv hJ hY h0 hq
  refine callsIn_of_wp Tryz.func97 rfl trivial ?_ rfl
  simp only [Tryz.ntmps97, List.size_toArray, List.length_cons, List.length_nil, Nat.reduceAdd, Nat.reduceSub, Array.replicate_succ, Array.replicate_zero, List.push_toArray, List.append_toArray, List.nil_append, List.cons_append]
  gi_wp2
  refine ⟨trivial, (callsIn_wide.2 HNM.out).mono ?_⟩
  rintro e W1 ⟨na, nc, rfl, _, hrow, hb1⟩
  have HK0 : Hid (KpT T W W1) := KpT.of_below hb1
  have HJ0 : Hid (J [] W1) := HJ.out [] W W1 none H0.out (grown_of_below hb1) (fun r e => by cases e)
  have HS1 : Hid (W.heap.size ≤ W1.heap.size) := hb1.size
  have hnrl : ∀ (k : Nat) (x : List UInt8), (r.L.map RF.nm)[k]? = some x → ∃ ad : Addr, na = some ad ∧ (∀ o, W1.heap[ad.block]? = some o → ¬ T ad.block o) ∧ W1.cell? (ad.add k) = some (.string (strB x)) := fun k x hx => by
    rcases hrow.2 with ⟨_, h0⟩ | ⟨g, cap, cur, he, hB, hgb, _⟩
    · have := (List.getElem?_eq_some_iff.1 hx).1
      rw [List.length_map, HQ.out] at this
      omega
    · injection he with he
      exact ⟨⟨g, 0, none⟩, he, (fun o ho => by rw [show W1.heap[g]? = _ from hgb] at ho; injection ho with ho; subst ho; exact hTn g _ _ hB), hrow.cells (g := g) (by rw [he]; rfl) k _ (by rw [List.getElem?_map, hx]; rfl)⟩
  have HNL := Lib.hid hnrl
  clear hrow hb1 hnrl y0 y1
  gi_wp2
  gi_loopw [10] (fun i wr => ∃ k : Nat, k ≤ q ∧ i = .int .i64 k ∧ Hid (J (((r.L.map RF.nm).take k).filterMap (numI s.data.toList)) wr) ∧ Hid (KpT T W wr) ∧ Hid (KpT T W1 wr)) (fun i _ => q - (intOf i).toNat)
  case atStart => exact ⟨0, Nat.zero_le _, rfl, HJ0, HK0, KpT.refl T W1⟩
  case round =>
    obtain ⟨k, hk, rfl, HJk, HK, HK1⟩ := hrel
    by_cases hlt : k < q
    · obtain ⟨x, hx⟩ : ∃ x, (r.L.map RF.nm)[k]? = some x := ⟨_, List.getElem?_eq_getElem (by rw [List.length_map, HQ.out]; exact hlt)⟩
      have HX := Lib.hid hx
      obtain ⟨ad, rfl, hTa, hg⟩ := HNL.out k x hx
      have g0 : wr.cell? (ad.add k) = some (.string (strB x)) := HK1.out.cell hg (by rw [add_block]; exact hTa)
      have y1 := HK.out.cell Y1.out hT1
      have hxs : (strB x).size ≤ 1000 := by
        obtain ⟨D, E, m, h1, h2, h3, h9⟩ := HD.out
        obtain ⟨f, hf, rfl⟩ := List.mem_map.1 (List.mem_of_getElem? hx)
        have := (nameOk_len (h9.1 f hf)).2
        rw [strB_size]
        omega
      have hno := numberOf_calls (HV.out.kp HK.out hTv) s (strB x) hs hxs
      rw [strB_list] at hno
      have HNO := Lib.hid hno
      have hwk : wrap64 ((k : Int) + 1) = (k : Int) + 1 := by unfold wrap64; omega
      have hk0 : (0 : Int) ≤ (k : Int) := by omega
      have hk1 : (k : Int) < (q : Int) := by omega
      clear hx hg hno hxs
      gi_wp2
      refine ⟨trivial, (callsIn_wide.2 HNO.out).mono ?_⟩
      rintro e w2 ⟨rfl, hb2⟩
      have HJ2 : Hid (J (((r.L.map RF.nm).take k).filterMap (numI s.data.toList)) w2) := HJ.out _ wr w2 none HJk.out (grown_of_below hb2) (fun r e => by cases e)
      have HK2 : Hid (KpT T W w2) := HK.out.trans (KpT.of_below hb2)
      have HK3 : Hid (KpT T W1 w2) := HK1.out.trans (KpT.of_below hb2)
      have htake : ((r.L.map RF.nm).take (k + 1)).filterMap (numI s.data.toList) = ((r.L.map RF.nm).take k).filterMap (numI s.data.toList) ++ (numI s.data.toList x).toList := by
        rw [List.take_add_one, HX.out, List.filterMap_append]
        simp only [Option.toList_some, List.filterMap_cons, List.filterMap_nil]
        cases numI s.data.toList x <;> rfl
      clear hb2 y1 g0
      cases hni : numI s.data.toList x with
      | none =>
        rw [numI_none hni]
        rw [hni] at htake
        have HJ3 : Hid (J (((r.L.map RF.nm).take (k + 1)).filterMap (numI s.data.toList)) w2) := by
          show J _ _
          rw [htake]
          simpa using HJ2.out
        clear htake hni
        gi_wp2
        refine ⟨fun _ h => (by cases h), ?_⟩
        gi_wp2
        go_roundw
        case rel => exact ⟨k + 1, by omega, by go_num, HJ3, HK2, HK3⟩
        case measure => simp [intOf]; omega
      | some y =>
        rw [(numI_some hni).1]
        rw [hni] at htake
        have hlen : (((r.L.map RF.nm).take k).filterMap (numI s.data.toList)).length < (numsL r s.data.toList).length := by
          have e1 : numsL r s.data.toList = ((r.L.map RF.nm).take (k + 1)).filterMap (numI s.data.toList) ++ ((r.L.map RF.nm).drop (k + 1)).filterMap (numI s.data.toList) := by
            unfold numsL
            rw [← List.filterMap_append, List.take_append_drop]
          rw [e1, htake]
          simp
        have hpre : ((r.L.map RF.nm).take (k + 1)).filterMap (numI s.data.toList) <+: numsL r s.data.toList := ⟨((r.L.map RF.nm).drop (k + 1)).filterMap (numI s.data.toList), by unfold numsL; rw [← List.filterMap_append, List.take_append_drop]⟩
        obtain ⟨fn, tmps, assign, body, hy, hR⟩ := HY.out _ y w2 HJ2.out hlen
        have HPRE := Lib.hid hpre
        have HTAKE := Lib.hid htake
        have hy1 : (1 : Int) ≤ (y.1 : Int) := by have := y.2.1; omega
        have hd : decide ((0 : Int) < (y.1 : Int)) = true := by simp; omega
        have hd2 : decide (0 < y.1) = true := by simp; omega
        clear htake hni hlen hpre
        gi_wp2
        refine hR.mono ?_
        rintro e w3 (⟨rfl, hJ4, hk4⟩ | ⟨rfl, hJx⟩)
        · have HJ4 : Hid (J (((r.L.map RF.nm).take (k + 1)).filterMap (numI s.data.toList)) w3) := by
            show J _ _
            rw [HTAKE.out]
            simpa using hJ4
          have HK4 : Hid (KpT T W w3) := HK2.out.trans hk4
          have HK5 : Hid (KpT T W1 w3) := HK3.out.trans hk4
          clear hJ4 hk4
          gi_wp2
          go_roundw
          case rel => exact ⟨k + 1, by omega, by go_num, HJ4, HK4, HK5⟩
          case measure => simp [intOf]; omega
        · have HJX : Hid (Jx (((r.L.map RF.nm).take (k + 1)).filterMap (numI s.data.toList)) w3) := by
            show Jx _ _
            rw [HTAKE.out]
            simpa using hJx
          clear hJx
          gi_wp2
          refine bodyPost_ret (results_none rfl _ _ _) rfl ?_
          exact ⟨⟨_, rfl⟩, .inr ⟨_, HPRE.out, HJX.out⟩⟩
    · have hfin : (r.L.map RF.nm).take k = r.L.map RF.nm := by rw [show k = q by omega, ← HQ.out]; exact List.take_of_length_le (by simp)
      rw [hfin] at HJk
      clear hfin
      gi_wp2
      go_end0
      exact ⟨⟨_, rfl⟩, .inl ⟨_, rfl, HJk.out⟩⟩

end Go.Proofs.YtdpbnacabinlgaaGreatDoor
