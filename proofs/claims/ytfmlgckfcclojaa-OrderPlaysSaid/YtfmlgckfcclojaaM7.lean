/- Order: slices.Delete of the first events. | Plain words on a device, without a program: a right name, and small facts on lists of bytes. | The small functions of a device that touch its own block alone (powerless, done, New, Acts, Down, Fuse) and isName: what each call gives back and what it leaves, whatever the block holds. | strings.Clone gives back the same string and turns nothing that was there; bytes.Clone gives back nil of nil, and else a new row of the same bytes. | Events: rows of values that are appended and sliced; what Fits answers of one schema. | Order: an event that shares no memory. | Order: events in a row; the iterator. -/
import Derived.Test.YtfmlgckfcclojaaM6
import Derived.Test.YtfmlgckfcclojaaRows
import Derived.WalkKit
import Derived.WalkSpells
import Derived.WalkLawsBesides
import Derived.Lib.Hide
import Derived.Lib.Strings
import Derived.Laws.MakeOwn
import Derived.Lib.BufferWrite
import Derived.Laws.AppendOwnNone
import Derived.Lib.SliceRun
import Derived.Lib.UnsafeStr
import Derived.Maps.OwnSet
import Derived.Maps.Range
import Derived.RangeFuncNested
import Derived.RangeFuncBound
import Derived.RangeFuncCalls
import Derived.RangeFuncLeaves
import Derived.RangeFuncWrites
import Derived.Shelf.RegionOpen
import Derived.Sort.QuietIn
import Derived.OwnWalkIn
import Derived.TacticsInMore
import Derived.LoopNIn
import Derived.LoopIn
namespace Go.Proofs.Ytfmlgckfcclojaa
open Go.RowKit Go.Lib Go.Op

/-- 'clear' of elements of many cells. -/
theorem run_clear_many {P : Program} (w : World) (t e ty : TypeId) (z : Value) (ht : P.underlying t = some (.slice e)) (hv : ∀ w, (zeroValue e).run P w = .ok z w) (b o n c : Nat) (hn : 0 < n) (h1 : ∀ u ∈ (Builtin.zeroCells z.cells n).toList, u.oneCell' = true)
    (hc : ∀ j, j < (Builtin.zeroCells z.cells n).toList.length → (w.cell? ⟨b, o + j, none⟩).isSome = true) (hf : ∀ j, j < (Builtin.zeroCells z.cells n).toList.length → w.frozen? ⟨b, o + j, none⟩ = false) :
    (Builtin.clear_ #[t] ty #[.slice (some ⟨b, o, none⟩) n c]).run P w = .ok (.tuple #[]) (w.setCells b o (Builtin.zeroCells z.cells n).toList) := by
  have hst := run_storeCells_cells (P := P) b o (Builtin.zeroCells z.cells n).toList 0 w (by simpa using hc) (by simpa using hf) h1
  simp only [Nat.add_zero] at hst
  obtain ⟨m, rfl⟩ : ∃ m, n = m + 1 := ⟨n - 1, by omega⟩
  simp [Builtin.clear_, run_underlying ht, hv, hst]

/-- An event without anything. -/
def zeroE : Value := .agg #[.int .i64 0, .int .i64 0, .int .i64 0, .string .empty, .slice none 0 0]
theorem zeroE_run : ∀ w : World, (zeroValue 25).run Try.prog w = .ok zeroE w := fun _ => by kernel_rfl
theorem zeroE_one (n : Nat) : ∀ u ∈ (Builtin.zeroCells zeroE.cells n).toList, u.oneCell' = true := by
  have hs : zeroE.cells = #[.int .i64 0, .int .i64 0, .int .i64 0, .string .empty, .slice none 0 0] := by kernel_rfl
  intro u hu
  rw [hs] at hu
  simp only [Builtin.zeroCells, Array.toList_map, List.mem_map] at hu
  obtain ⟨j, _, rfl⟩ := hu
  have h5 : j % 5 < 5 := Nat.mod_lt _ (by omega)
  show (#[Value.int .i64 0, .int .i64 0, .int .i64 0, .string .empty, .slice none 0 0] : Array Value)[j % 5]!.oneCell' = true
  obtain h | h | h | h | h : j % 5 = 0 ∨ j % 5 = 1 ∨ j % 5 = 2 ∨ j % 5 = 3 ∨ j % 5 = 4 := by omega
  all_goals (rw [h]; rfl)

theorem step_append_run5 {P : Program} {ops : Array Oper} {o : Oper} {a : Act} {w : World} {K : Act → World → Prop} {Q : Exit → Act → World → Prop} {E : Prop}
    (hg : o.guard = none) (d x : Operand) (dT sT : TypeId) (hop : o.op = Op.call { callee := Callee.builtin Builtin.append, args := #[d, x], argTypes := #[dT, sT] })
    (v u : Value) (hd : a.eval d = v) (hx : a.eval x = u) {v' : Value} {w' : World} (hr : (Builtin.append_ #[dT, sT] o.type #[v, u]).run P w = .ok v' w') (hK : K (a.put o.dst v') w') :
    if Region.wanted o (yielded ops a.tmps) = true then Oper.wp P o a w K Q else E := by
  have hw : Region.wanted o (yielded ops a.tmps) = true := by simp [Region.wanted, hg]
  rw [if_pos hw]
  unfold Oper.wp execOp
  simp only [hop, resolve, invoke, builtin, Sem.run_bind, Sem.run_pure, Result.andThen_ok, List.map_toArray, List.map_cons, List.map_nil, hd, hx, hr]
  exact hK

theorem wpList_clear_run5 {P : Program} (w : World) {ops : Array Oper} {rest : List Oper} {o : Oper} {a : Act} {Q : Exit → Act → World → Prop} (hgd : o.guard = none) (s : Operand) (t : TypeId)
    (ho : o.op = .call { callee := .builtin .clear, args := #[s], argTypes := #[t] }) (u : Value) (hs : a.eval s = u) {v' : Value} {w' : World}
    (hr : (Builtin.clear_ #[t] o.type #[u]).run P w = .ok v' w') (h : wpList P ops Q rest (a.put o.dst v') w') : wpList P ops Q (o :: rest) a w :=
  wpList_plain hgd fun _ hK => by
    unfold Oper.wp execOp
    simp only [ho, resolve, invoke, builtin, Sem.run_bind, Sem.run_pure, Result.andThen_ok, List.map_toArray, List.map_cons, List.map_nil, hs, hr]
    exact hK _ _ h

def DelPost (B : Nat) (v : Value) (n : Nat) (ys : List Value) (w : World) (e : Ending) (w' : World) : Prop :=
  ∃ v', e = .returned v' ∧ w'.ownsRow B 25 5 v' n ys ∧ OFr (fun k => v.ownBlock = some k) w w' ∧ v'.ownBlock = v.ownBlock

set_option maxHeartbeats 4000000 in
set_option maxRecDepth 100000 in
theorem delete_calls (B : Nat) (v : Value) (n k : Nat) (xs : List Value) (w : World) (hown : w.ownsRow B 25 5 v n xs) (hk : k ≤ n) (hn : n ≤ 1000) (h1x : ∀ u ∈ xs, u.oneCell' = true) :
    Calls Try.prog 70 #[v, .int .i64 0, .int .i64 k] w (DelPost B v (n - k) (xs.drop (k * 5)) w) := by
  by_cases h0 : k = 0
  · subst h0
    rcases hown.2 with ⟨rfl, rfl⟩ | ⟨g, cap, cur, rfl, hbg, hg, hnc, hcm, hcu, htake⟩
    · have fin : Hid (DelPost B (.slice none 0 0) (0 - 0) (xs.drop (0 * 5)) w (.returned (.slice none 0 0)) w) := ⟨_, rfl, by simpa using hown, OFr.refl _ _, rfl⟩
      clear hown
      go_enter Try.func70, Try.ntmps70
      go_wp2
      go_ret
      exact fin.out
    · have fin : Hid (DelPost B (.slice (some ⟨g, 0, none⟩) n cap) (n - 0) (xs.drop (0 * 5)) w (.returned (.slice (some ⟨g, 0, none⟩) n cap)) w) := ⟨_, rfl, by simpa using hown, OFr.refl _ _, rfl⟩
      clear hown hg hcu htake
      unfold maxLen at hcm
      go_enter Try.func70, Try.ntmps70
      go_wp2
      all_goals (go_ret; exact fin.out)
  · rcases hown.2 with ⟨rfl, rfl⟩ | ⟨g, cap, cur, rfl, hbg, hg, hnc, hcm, hcu, htake⟩
    · omega
    · obtain ⟨i0, hinf, hz0, hz1, hz2⟩ := info_parts infoE
      have hxl := hown.1
      by_cases hcK : cap = k
      · obtain rfl : k = n := by omega
        obtain rfl : k = cap := by omega
        have h5 : zeroE.cells.size = 5 := by kernel_rfl
        obtain ⟨zs, hzs⟩ : ∃ zs, zs = (Builtin.zeroCells zeroE.cells k).toList := ⟨_, rfl⟩
        have hzl : zs.length = k * 5 := by rw [hzs, Array.length_toList, size_zeroCells, h5]
        have hcr : ∀ ty dc, (Builtin.clear_ #[66] ty #[.slice (some ⟨g, 0, none⟩) k dc]).run Try.prog w.drew = .ok (.tuple #[]) (w.drew.setCells g 0 zs) := fun ty dc => by
          rw [hzs]
          exact run_clear_many w.drew 66 25 ty zeroE Try.underlying66 zeroE_run g 0 k dc (by omega) (zeroE_one k) (by rw [← hzs, hzl]; exact fun j hj => cell_some (w := w.drew) hg (by omega)) (fun j hj => frozen_of_row w.drew g _ cur 25 hg)
        obtain ⟨cur2, hg2, ht2, hs2⟩ := heap_setCells g 25 zs 0 w.drew cur hg (by omega)
        have fin : Hid (DelPost B (.slice (some ⟨g, 0, none⟩) k k) 0 (xs.drop (k * 5)) w (.returned (.slice (some ⟨g, 0, none⟩) 0 k)) (w.drew.setCells g 0 zs)) := by
          refine ⟨_, rfl, ⟨?_, .inr ⟨g, k, cur2, rfl, hbg, hg2, by omega, hcm, by omega, ?_⟩⟩, OFr.setCells (K := fun q => (Value.slice (some ⟨g, 0, none⟩) k k).ownBlock = some q) (OFr.refl _ w).drew (fun _ => rfl) _ _, rfl⟩
          · rw [List.length_drop, hxl]; omega
          · rw [List.drop_of_length_le (by omega)]; simp
        clear hinf hz0 hz1 hz2 hg hzs hzl hg2 ht2 hs2 hown hxl htake hcu h1x h5
        unfold maxLen at hcm
        have hz : ¬ ((0 : Int) = (k : Int)) := by omega
        have hb3 : (0 : Int) ≤ (k : Int) := by omega
        rw [Nat.sub_self]
        go_enter Try.func70, Try.ntmps70
        go_wp2_with fail
        go_region_law fail
        go_wp2_with (at_builtin; refine wpList_clear_run5 _ rfl _ 66 rfl _ rfl (hcr _ _) ?_)
        go_ret
        exact fin.out
      have hdl : (xs.drop (k * 5)).length = (n - k) * 5 := by rw [List.length_drop, hxl]; omega
      have hcl : cur.toList.length = cap * 5 := by rw [Array.length_toList, hcu]
      have hap : ∀ ty (A : Addr), A = (if cap = k then ⟨g, 0, none⟩ else ⟨g, k * 5, none⟩) → (Builtin.append_ #[66, 66] ty #[.slice (some ⟨g, 0, none⟩) 0 cap, .slice (some A) (n - k) (cap - k)]).run Try.prog w.drew = .ok (.slice (some ⟨g, 0, none⟩) (0 + (n - k)) cap) (w.drew.setRow g (cur.toList.take (0 * i0.size) ++ xs.drop (k * 5) ++ cur.toList.drop (0 * i0.size + (xs.drop (k * 5)).length)).toArray) := fun ty A hA =>
        run_append_room (P := Try.prog) w.drew 66 ty 25 i0 Try.underlying66 hinf g 0 cap cur hg A (n - k) (cap - k) (xs.drop (k * 5)) (by rw [hdl, hz1]) (fun j u hj => by
          by_cases hck : cap = k
          · exfalso
            have := (List.getElem?_eq_some_iff.1 hj).1
            rw [hdl] at this
            omega
          · rw [hA, if_neg hck]
            exact drop_src (w := w.drew) hg htake j u hj) (fun u hu => h1x u (List.mem_of_mem_drop hu)) (by omega) (by rw [hz1, hdl]; omega)
      obtain ⟨X, hX⟩ : ∃ X : Array Value, X = (cur.toList.take (0 * i0.size) ++ xs.drop (k * 5) ++ cur.toList.drop (0 * i0.size + (xs.drop (k * 5)).length)).toArray := ⟨_, rfl⟩
      rw [← hX] at hap
      have hXl : X.toList = xs.drop (k * 5) ++ cur.toList.drop ((n - k) * 5) := by rw [hX]; simp [hdl]
      have hXs : X.size = cap * 5 := by rw [← Array.length_toList, hXl, List.length_append, hdl, List.length_drop, hcl]; omega
      have hg1 : (w.drew.setRow g X).heap[g]? = some (.cells X 25 (0, 0)) := setRow_heap _ _ cur _ 25 (0, 0) hg
      obtain ⟨W1, hW1⟩ : ∃ W1, W1 = w.drew.setRow g X := ⟨_, rfl⟩
      have hF1 : OFr (fun q => (Value.slice (some ⟨g, 0, none⟩) n cap).ownBlock = some q) w W1 := by
        rw [hW1]
        exact ⟨rfl, rfl, rfl, by simp, fun q _ hq => setRow_other _ _ _ _ (fun e => hq (by rw [e]; rfl))⟩
      rw [← hW1] at hap hg1
      obtain ⟨zs, hzs⟩ : ∃ zs, zs = (Builtin.zeroCells zeroE.cells k).toList := ⟨_, rfl⟩
      have hzl : zs.length = k * 5 := by
        have h5 : zeroE.cells.size = 5 := by kernel_rfl
        rw [hzs, Array.length_toList, size_zeroCells, h5]
      have hnk : n - (n - k) = k := by omega
      have hcr : ∀ ty dc, (Builtin.clear_ #[66] ty #[.slice (some ⟨g, (n - k) * 5, none⟩) (n - (n - k)) dc]).run Try.prog W1 = .ok (.tuple #[]) (W1.setCells g ((n - k) * 5) zs) := fun ty dc => by
        rw [hzs, hnk]
        exact run_clear_many W1 66 25 ty zeroE Try.underlying66 zeroE_run g ((n - k) * 5) k dc (by omega) (zeroE_one k) (by rw [← hzs, hzl]; exact fun j hj => cell_some hg1 (by omega)) (fun j hj => frozen_of_row W1 g _ X 25 hg1)
      obtain ⟨cur2, hg2, ht2, hs2⟩ := heap_setCells g 25 zs ((n - k) * 5) W1 X hg1 (by omega)
      have fin : Hid (DelPost B (.slice (some ⟨g, 0, none⟩) n cap) (n - k) (xs.drop (k * 5)) w (.returned (.slice (some ⟨g, 0, none⟩) (n - k) cap)) (W1.setCells g ((n - k) * 5) zs)) := by
        refine ⟨_, rfl, ⟨hdl, .inr ⟨g, cap, cur2, rfl, hbg, hg2, by omega, hcm, by omega, ?_⟩⟩, hF1.setCells (fun _ => rfl) _ _, rfl⟩
        rw [ht2, hXl]
        unfold putL
        rw [List.take_left' hdl, List.append_assoc]
        exact List.take_left' hdl
      clear hnk hinf hz0 hz1 hz2 hdl hcl hXl hXs hg hg1 hF1 hzs hzl hg2 ht2 hs2 hown hxl htake hcu h1x
      unfold maxLen at hcm
      have HX := Lib.hid hX
      have HW1 := Lib.hid hW1
      clear hX hW1
      have hz : ¬ ((0 : Int) = (k : Int)) := by omega
      have hb1 : (k : Int) ≤ (n : Int) := by omega
      have hb2 : (n : Int) ≤ (cap : Int) := by omega
      have hb3 : (0 : Int) ≤ (k : Int) := by omega
      have hb4 : ¬ (cap = n - k) := by omega
      by_cases hck : cap = k
      · exact absurd hck hcK
      · have hap : ∀ ty, (Builtin.append_ #[66, 66] ty #[.slice (some ⟨g, 0, none⟩) 0 cap, .slice (some ⟨g, k * 5, none⟩) (n - k) (cap - k)]).run Try.prog w.drew = .ok (.slice (some ⟨g, 0, none⟩) (0 + (n - k)) cap) W1 := fun ty => hap ty ⟨g, k * 5, none⟩ (by rw [if_neg hck])
        go_enter Try.func70, Try.ntmps70
        go_wp2_with fail
        go_region_law (refine step_append_run5 rfl _ _ 66 66 rfl _ _ (by simp [Act.eval, Act.put]) (by simp [Act.eval, Act.put]) (hap _) ?_)
        go_wp2_with (at_builtin; refine wpList_clear_run5 _ rfl _ 66 rfl _ rfl (hcr _ _) ?_)
        go_ret
        exact fin.out

end Go.Proofs.Ytfmlgckfcclojaa
namespace Go.Proofs.Ytfmlgckfcclojaa
open Go.RowKit Go.Lib

/-- One of the bytes that a name may have. -/
def chOk (c : UInt8) : Bool := decide (97 ≤ c.toNat ∧ c.toNat ≤ 122 ∨ 48 ≤ c.toNat ∧ c.toNat ≤ 57 ∨ c.toNat = 45)

/-- A right name. -/
def nameOk (l : List UInt8) : Bool := decide (1 ≤ l.length) && decide (l.length ≤ 20) && l.all chOk

theorem chOk_iff (c : UInt8) : chOk c = true ↔ 97 ≤ c.toNat ∧ c.toNat ≤ 122 ∨ 48 ≤ c.toNat ∧ c.toNat ≤ 57 ∨ c.toNat = 45 := by simp [chOk]

theorem nameOk_short {l : List UInt8} (h : l.length < 1) : nameOk l = false := by simp [nameOk]; omega
theorem nameOk_long {l : List UInt8} (h : 20 < l.length) : nameOk l = false := by simp [nameOk]; omega
theorem nameOk_all {l : List UInt8} (h1 : 1 ≤ l.length) (h2 : l.length ≤ 20) (h : ∀ k, k < l.length → chOk (l.getD k 0) = true) : nameOk l = true := by
  simp only [nameOk, h1, h2, decide_true, Bool.true_and, List.all_eq_true]
  intro c hc
  obtain ⟨k, hk, rfl⟩ := List.mem_iff_getElem.1 hc
  have := h k hk
  rwa [List.getD_eq_getElem?_getD, List.getElem?_eq_getElem hk] at this
theorem nameOk_bad {l : List UInt8} {k : Nat} (hk : k < l.length) (h : chOk (l.getD k 0) = false) : nameOk l = false := by
  have hm : l.getD k 0 ∈ l := by
    rw [List.getD_eq_getElem?_getD, List.getElem?_eq_getElem hk]
    exact List.getElem_mem hk
  simp only [nameOk]
  have : l.all chOk = false := by
    rw [List.all_eq_false]
    exact ⟨_, hm, by rw [h]; decide⟩
  rw [this]
  simp

theorem getD_bytes (s : ByteArray) (k : Nat) (h : k < s.size) : s.data.toList.getD k 0 = s[k] := by
  rw [List.getD_eq_getElem?_getD, List.getElem?_eq_getElem (by simpa using h)]
  rfl

theorem byteCells_take (l : List UInt8) (k : Nat) : (Lib.byteCells l).take k = Lib.byteCells (l.take k) := by simp [Lib.byteCells, List.map_take]

theorem nameOk_len {l : List UInt8} (h : nameOk l = true) : 1 ≤ l.length ∧ l.length ≤ 20 := by
  simp only [nameOk, Bool.and_eq_true, decide_eq_true_eq] at h
  exact h.1

end Go.Proofs.Ytfmlgckfcclojaa
namespace Go.Proofs.Ytfmlgckfcclojaa
open Go.RowKit Go.Lib

/-- What 'done' leaves of a fuse. -/
def fuseLess (f : Int) : Int := if 0 < f then f - 1 else f

end Go.Proofs.Ytfmlgckfcclojaa
namespace Go.Proofs.Ytfmlgckfcclojaa
open Go.RowKit Go.Lib

theorem infoB : (Try.prog.info? 5).map (fun i => (i.zero, i.size, i.bytes)) = some (some (.int .u8 0), 1, 1) := by kernel_rfl

set_option maxHeartbeats 4000000 in
set_option maxRecDepth 100000 in
theorem lclone_calls (s : ByteArray) (w : World) (hlim : s.size ≤ 281474976710656) :
    Calls Try.prog 101 #[.string s] w fun e w' => e = .returned (.string s) ∧ Below w.heap.size w w' := by
  by_cases h0 : s.size = 0
  · have hs : s = ⟨#[]⟩ := by
      apply ByteArray.ext
      exact Array.eq_empty_of_size_eq_zero h0
    subst hs
    go_enter Try.func101, Try.ntmps101
    go_wp2
    go_ret
    exact ⟨rfl, Below.refl _ _⟩
  · obtain ⟨i0, hi, hz0, hz1, hz2⟩ := info_parts infoB
    have hinfo : (Try.prog.info? 5).map (·.size) = some 1 := by rw [hi]; simp [hz1]
    have hco : Try.prog.cellsOf 5 = 1 := by simp [Program.cellsOf, hi, hz1]
    obtain ⟨M, hM⟩ : ∃ M, M = madeCells (Value.int .u8 0).cells (((s.size : Nat) : Int).toNat * i0.size) := ⟨_, rfl⟩
    have hMs : M.size = s.size := by rw [hM, size_madeCells, hz1]; simp
    have hmk : ∀ W : World, (Instr.makeSlice 40 (.int .i64 (s.size : Int)) (.int .i64 (s.size : Int))).run Try.prog W = .ok (.slice (some ⟨W.heap.size, 0, none⟩) s.size s.size) (W.alloc (.cells M 5)) := fun W => by
      have h := run_make (P := Try.prog) W 40 5 i0 (.int .u8 0) Try.underlying40 hi hz0 .i64 .i64 (s.size : Int) (s.size : Int) (by omega) (by omega) (by rw [hz2]; omega) (by omega)
      rw [← hM] at h
      simpa using h
    clear hM
    have hcp := Lib.run_copy_row_string (P := Try.prog) (w.alloc (.cells M 5)) 40 9 3 5 w.heap.size 0 s.size s.size s M 5 Try.underlying40 hinfo (heap_alloc_new w _) (Nat.le_refl _) (by omega)
    obtain ⟨Y, hY⟩ : ∃ Y, Y = (M.toList.take 0 ++ Lib.byteCells s.data.toList ++ M.toList.drop (0 + s.size)).toArray := ⟨_, rfl⟩
    rw [← hY] at hcp
    have hYl : Y.toList = Lib.byteCells s.data.toList := by
      rw [hY, List.toList_toArray, List.take_zero, List.nil_append, List.drop_of_length_le (by rw [Array.length_toList]; omega), List.append_nil]
    have hYs : Y.size = s.size := by rw [← Array.length_toList, hYl, Lib.byteCells_length, ← Lib.size_eq]
    have hgY : ((w.alloc (.cells M 5)).setRow w.heap.size Y).heap[w.heap.size]? = some (.cells Y 5 (0, 0)) := setRow_heap _ _ M _ 5 (0, 0) (heap_alloc_new w _)
    have hne : s.data.toList ≠ [] := fun e => h0 (by rw [Lib.size_eq, e]; rfl)
    have hUS := Lib.run_unsafeString_row (P := Try.prog) ((w.alloc (.cells M 5)).setRow w.heap.size Y) 127 3 9 5 Try.underlying127 hco w.heap.size Y.size (by unfold World.shape?; rw [hgY]) s.data.toList hne (by rw [← Lib.size_eq]; omega) (by rw [← Lib.size_eq]; omega)
      (fun j x hx => Lib.cells_of_row hgY Y.size j _ (by rw [List.take_of_length_le (by rw [Array.length_toList]; exact Nat.le_refl _), hYl]; simp [Lib.byteCells, hx]))
    rw [← Lib.size_eq] at hUS
    clear hY
    go_enter Try.func101, Try.ntmps101
    go_wp2
    go_ret
    have hb1 : Below w.heap.size w (w.alloc (.cells M 5)) := (Below.refl _ w).alloc (Nat.le_refl _) _
    have hb2 : Below w.heap.size (w.alloc (.cells M 5)) ((w.alloc (.cells M 5)).setRow w.heap.size Y) := ⟨rfl, rfl, rfl, by simp, fun k hk => setRow_other _ _ _ _ (by omega)⟩
    exact ⟨rfl, Lib.below_freeze (hb1.trans hb2) (p := ⟨w.heap.size, 0, none⟩) (Nat.le_refl _) _⟩

set_option maxHeartbeats 400000 in
theorem sclone_calls (s : ByteArray) (w : World) (hlim : s.size ≤ 281474976710656) :
    Calls Try.prog 94 #[.string s] w fun e w' => e = .returned (.string s) ∧ Below w.heap.size w w' := by
  go_enter Try.func94, Try.ntmps94
  go_wp2_with fail
  refine (lclone_calls s _ hlim).mono ?_
  rintro e w1 ⟨rfl, hb⟩
  go_wp2_with fail
  go_ret
  exact ⟨rfl, hb⟩

end Go.Proofs.Ytfmlgckfcclojaa
namespace Go.Proofs.Ytfmlgckfcclojaa
open Go.RowKit Go.Lib Go.Op

/-- Values in a row, as a slice. -/
def VSl (w : World) (v : Value) (vs : List VIn) : Prop := ∃ a c, v = .slice a vs.length c ∧ vs.length ≤ c ∧ c ≤ maxLen ∧ (a = none → c = 0) ∧ VRow w a vs

theorem VSl.below {w w' : World} {v : Value} {vs : List VIn} (h : VSl w v vs) (hb : Below w.heap.size w w') : VSl w' v vs := by
  obtain ⟨a, c, h1, h2, h3, h4, h5⟩ := h
  exact ⟨a, c, h1, h2, h3, h4, h5.below hb⟩

theorem efld_add (A : Addr) (k j f : Nat) : efld (A.add (k * 3)) 3 j f = efld A 3 (k + j) f := by
  have h : (k + j) * 3 = k * 3 + j * 3 := by omega
  unfold efld
  rw [Addr.add_add, h]

/-- Values from a place on. -/
theorem VSl.drop {w : World} {v : Value} {vs : List VIn} (h : VSl w v vs) {k : Nat} (hk : k ≤ vs.length) :
    ∃ v', (∀ W : World, (Instr.slice 23 v (some (.int .i64 k)) none none).run Try.prog W = .ok v' W) ∧ VSl w v' (vs.drop k) := by
  obtain ⟨a, c, rfl, h1, h2, h3, hx⟩ := h
  refine ⟨.slice (if c = k then a else a.map (·.add (k * 3))) (vs.length - k) (c - k), fun W => ?_, ?_⟩
  · have hz : (sizeOf 52).run Try.prog W = .ok 3 W := by kernel_rfl
    rw [run_slice_l (P := Try.prog) W 23 a vs.length c (by kernel_rfl) .i64 (k : Int) (by omega) (by omega)]
    have he : Try.prog.elem 23 = 52 := by kernel_rfl
    rw [he, hz]
    simp [Result.andThen, sliced]
  · refine ⟨_, c - k, by rw [List.length_drop], by rw [List.length_drop]; omega, by omega, fun hn => ?_, fun j x hj => ?_⟩
    · split at hn
      · omega
      · cases a with
        | none => have := h3 rfl; omega
        | some A => cases hn
    · rw [List.getElem?_drop] at hj
      obtain ⟨A, rfl, h5, h6, h7, h8⟩ := hx (k + j) x hj
      have hlt : k + j < vs.length := (List.getElem?_eq_some_iff.1 hj).1
      have hck : c ≠ k := by omega
      refine ⟨A.add (k * 3), by simp [hck], ?_, ?_, ?_, h8⟩
      · rw [Addr.add_add, show k * 3 + j * 3 = (k + j) * 3 by omega]; exact h5
      · rw [efld_add]; exact h6
      · rw [efld_add]; exact h7

/-- Values up to a place. -/
theorem VSl.upto {w : World} {v : Value} {vs : List VIn} (h : VSl w v vs) {m : Nat} (hm : m ≤ vs.length) :
    ∃ v', (∀ W : World, (Instr.slice 23 v none (some (.int .i64 m)) none).run Try.prog W = .ok v' W) ∧ VSl w v' (vs.take m) := by
  obtain ⟨a, c, rfl, h1, h2, h3, hx⟩ := h
  have hlen : (vs.take m).length = m := by rw [List.length_take]; omega
  refine ⟨.slice a m c, fun W => ?_, ?_⟩
  · have hz : (sizeOf 52).run Try.prog W = .ok 3 W := by kernel_rfl
    rw [run_slice_h (P := Try.prog) W 23 a vs.length c (by kernel_rfl) .i64 (m : Int) (by omega) (by omega)]
    have he : Try.prog.elem 23 = 52 := by kernel_rfl
    rw [he, hz]
    cases a <;> simp [Result.andThen, sliced, Addr.add]
  · refine ⟨_, c, by rw [hlen], by rw [hlen]; omega, h2, h3, fun j x hj => ?_⟩
    have hjm : j < m := by
      have := (List.getElem?_eq_some_iff.1 hj).1
      omega
    rw [List.getElem?_take_of_lt hjm] at hj
    exact hx j x hj

/-- The cells of a row, one by one. -/
theorem VRow.src {w : World} {A : Addr} {vs : List VIn} (h : VRow w (some A) vs) : ∀ j u, (valCells vs)[j]? = some u → w.cell? (A.add j) = some u := by
  intro j u hj
  have hlen : ∀ l : List VIn, (valCells l).length = l.length * 3 := by
    intro l
    induction l with
    | nil => rfl
    | cons x l ih => rw [valCells, List.length_append, ih, List.length_cons]; simp [vCells]; omega
  have hjl := (List.getElem?_eq_some_iff.1 hj).1
  rw [hlen] at hjl
  obtain ⟨q, r, hr, rfl⟩ : ∃ q r, r < 3 ∧ j = q * 3 + r := ⟨j / 3, j % 3, Nat.mod_lt _ (by omega), by omega⟩
  have hq : q < vs.length := by omega
  obtain ⟨A', e, h0, h1, h2, _⟩ := h q _ (List.getElem?_eq_getElem hq)
  injection e with e
  subst e
  rw [valCells_at vs q _ r (List.getElem?_eq_getElem hq) hr] at hj
  unfold efld at h1 h2
  have ha : ∀ i, 0 < i → A.add (q * 3 + i) = ⟨(A.add (q * 3)).block, (A.add (q * 3)).off + i, none⟩ := fun i hi => by
    unfold Addr.add
    rw [if_neg (by omega)]
    split
    · simp
    · simp; omega
  match r, hr with
  | 0, _ => injection hj with hj; rw [← hj, Nat.add_zero]; exact h0
  | 1, _ => injection hj with hj; rw [← hj, ha 1 (by omega)]; exact h1
  | 2, _ => injection hj with hj; rw [← hj, ha 2 (by omega)]; exact h2

theorem valCells_oneCell : ∀ (l : List VIn), ∀ u ∈ valCells l, u.oneCell' = true
  | [], u, hu => by cases hu
  | x :: l, u, hu => by
    rw [valCells, List.mem_append] at hu
    rcases hu with h | h
    · exact vCells_oneCell x u h
    · exact valCells_oneCell l u h
theorem valCells_len : ∀ (l : List VIn), (valCells l).length = l.length * 3
  | [] => rfl
  | x :: l => by rw [valCells, List.length_append, valCells_len l, List.length_cons]; simp [vCells]; omega

/-- A row of the call's own, with values behind. -/
def VOwn (w : World) (base : Nat) (v : Value) (vs : List VIn) : Prop := w.ownsRow base 52 3 v vs.length (valCells vs)

theorem VOwn.empty (w : World) {base : Nat} (hb : base ≤ w.heap.size) : VOwn (w.alloc (.cells #[] 52)) base (.slice (some ⟨w.heap.size, 0, none⟩) 0 0) [] :=
  ⟨rfl, .inr ⟨w.heap.size, 0, #[], rfl, hb, heap_alloc_new w _, Nat.le_refl _, Nat.zero_le _, rfl, rfl⟩⟩
theorem VOwn.alloc {w : World} {base : Nat} {v : Value} {vs : List VIn} (h : VOwn w base v vs) (o : Obj) : VOwn (w.alloc o) base v vs := World.ownsRow.alloc h o
theorem VOwn.drew {w : World} {base : Nat} {v : Value} {vs : List VIn} (h : VOwn w base v vs) : VOwn w.drew base v vs := h

theorem VOwn.sl {w : World} {base : Nat} {v : Value} {vs : List VIn} (h : VOwn w base v vs) (hs : ∀ x ∈ vs, x.2.2.size ≤ maxLen) : VSl w v vs := by
  obtain ⟨a, c, rfl⟩ := vowns_slice h
  have hr := VRow.of_owns h hs rfl
  rcases h.2 with ⟨h1, h0⟩ | ⟨g, cap, cur, h1, h2, h3, h4⟩
  · injection h1 with e1 e2 e3
    subst e1 e3
    exact ⟨none, 0, rfl, by omega, Nat.zero_le _, fun _ => rfl, hr⟩
  · obtain ⟨h5, h6, _⟩ := h4
    injection h1 with e1 e2 e3
    subst e1 e3
    exact ⟨_, _, rfl, h5, h6, fun e => (by cases e), hr⟩

/-- 'append(own, row...)', run. -/
theorem run_append_vals {w : World} {B : Nat} {y : Value} {vs : List VIn} (hv : VSl w y vs) {v : Value} {ws : List VIn} (hown : VOwn w B v ws) (hl : ws.length + vs.length ≤ 1000) (hB : B ≤ w.heap.size) (ty : TypeId) :
    ∃ v' w', (Builtin.append_ #[23, 23] ty #[v, y]).run Try.prog w = .ok v' w' ∧ VOwn w' B v' (ws ++ vs) ∧ w.grownBy w' v.ownBlock := by
  obtain ⟨i0, hi, hz⟩ := Option.map_eq_some_iff.1 infoV
  injection hz with hz0 hz
  injection hz with hz1 hz2
  obtain ⟨ad, c, rfl, h1, h2, h3, h4⟩ := hv
  cases ad with
  | none =>
    obtain rfl := h3 rfl
    obtain rfl : vs = [] := List.eq_nil_of_length_eq_zero (by omega)
    refine ⟨v, w, run_append_owned_none w B 23 ty 52 i0 3 Try.underlying23 hi v ws.length _ hown, ?_, ⟨rfl, rfl, rfl, Nat.le_refl _, fun _ _ _ => rfl⟩⟩
    rw [List.append_nil]; exact hown
  | some A =>
    obtain ⟨v', w', h5, h6, h7, _⟩ := run_append_own (P := Try.prog) w B 23 ty 52 i0 (.agg #[.int .i64 0, .int .i64 0, .string .empty]) 3 32 Try.underlying23 hi hz0 hz1 hz2 rfl (by decide) v ws.length (valCells ws) hown A vs.length c (valCells vs) (valCells_len vs) h4.src (valCells_oneCell vs) (by unfold maxLen; omega) (by omega) hB
    refine ⟨v', w', h5, ?_, h7⟩
    unfold VOwn
    rw [valCells_append, List.length_append]
    exact h6

/-- One value in a row of its own. -/
theorem VSl.one (W : World) (k n : Int) (s : ByteArray) (hs : s.size ≤ maxLen) : VSl (W.alloc (.cells #[.int .i64 k, .int .i64 n, .string s] 52)) (.slice (some ⟨W.heap.size, 0, none⟩) 1 1) [(k, n, s)] := by
  refine ⟨_, 1, rfl, Nat.le_refl _, by unfold maxLen; decide, fun e => (by cases e), fun j x hj => ?_⟩
  obtain ⟨rfl, rfl⟩ : j = 0 ∧ (k, n, s) = x := by
    cases j with
    | zero => exact ⟨rfl, by simpa using hj⟩
    | succ j => simp at hj
  refine ⟨_, rfl, ?_, ?_, ?_, hs⟩
  · rw [Nat.zero_mul, Addr.add_zero']; exact new_cell _ _ _ rfl rfl
  · unfold efld; rw [Nat.zero_mul, Addr.add_zero']; exact new_cell _ _ _ rfl rfl
  · unfold efld; rw [Nat.zero_mul, Addr.add_zero']; exact new_cell _ _ _ rfl rfl

/-- What a growing row leaves as it was. -/
theorem VSl.grown {w w' : World} {row : Option Nat} (hg : w.grownBy w' row) {b : Nat} {vs : List VIn} {l c : Nat} (h : VSl w (.slice (some ⟨b, 0, none⟩) l c) vs) (hb : some b ≠ row) : VSl w' (.slice (some ⟨b, 0, none⟩) l c) vs := by
  obtain ⟨a, c', e, h1, h2, h3, h4⟩ := h
  injection e with e1 e2 e3
  subst e1 e2 e3
  refine ⟨_, _, rfl, h1, h2, h3, fun j x hj => ?_⟩
  obtain ⟨A, e, h5, h6, h7, h8⟩ := h4 j x hj
  injection e with e
  subst e
  have hq : ∀ q, ((⟨b, 0, none⟩ : Addr).add q).block = b := fun q => by unfold Addr.add; split <;> rfl
  have key : ∀ {p : Addr} {u : Value}, p.block = b → w.cell? p = some u → w'.cell? p = some u := fun {p u} hp hc => hg.cell hc (by rw [hp]; exact hb)
  exact ⟨_, rfl, key (hq _) h5, key (hq _) h6, key (hq _) h7, h8⟩

/-- What Fits answers of one schema. -/
theorem fits_one (S : SIn) (n : ByteArray) (vs : List VIn) : fitsI [S] n vs = if nameIs n S.name then (if kindsB vs S.fs then 0 else 42) else 12 := by
  unfold fitsI
  cases h : nameIs n S.name <;> simp [List.findIdx?_cons, h]

/-- The whole answer. -/
def fitsA (l : List SIn) (t d s : Int) (n : ByteArray) (vs : List VIn) : Int := if rightE (pe t d s n vs) then fitsI l n vs else 1

theorem fitsA_ok {S : SIn} {t d s : Int} {n : ByteArray} {vs : List VIn} : fitsA [S] t d s n vs = 0 ↔ rightE (pe t d s n vs) = true ∧ nameIs n S.name = true ∧ kindsB vs S.fs = true := by
  unfold fitsA
  rw [fits_one]
  cases rightE (pe t d s n vs) <;> cases nameIs n S.name <;> cases kindsB vs S.fs <;> simp

theorem kindsB_iff {vs : List VIn} {fs : List FIn} : kindsB vs fs = true ↔ vs.map (·.1) = fs.map (·.2) := by unfold kindsB; rw [decide_eq_true_eq]

theorem right_of {t d s : Int} {n : ByteArray} {vs ws : List VIn} (h : rightE (pe t d s n vs) = true) (hl : ws.length ≤ 8) (hw : ∀ x ∈ ws, x ∈ vs ∨ rightB (pv x) = true) : rightE (pe t d s n ws) = true := by
  obtain ⟨h1, h2, h3, h4, h5, h6⟩ := rightE_iff.1 h
  refine rightE_iff.2 ⟨h1, h2, h3, h4, by simpa [pe] using hl, ?_⟩
  simp only [pe, List.all_eq_true, List.mem_map] at h6 ⊢
  rintro _ ⟨x, hx, rfl⟩
  rcases hw x hx with h | h
  · exact h6 _ ⟨x, h, rfl⟩
  · exact h

/-- With one more it does not fit. -/
theorem fits_more {S : SIn} {t d s : Int} {n : ByteArray} {vs : List VIn} (h : fitsA [S] t d s n vs = 0) (x : VIn) : fitsA [S] t d s n (vs ++ [x]) ≠ 0 := by
  intro h2
  have h3 := kindsB_iff.1 (fitsA_ok.1 h).2.2
  have h4 := kindsB_iff.1 (fitsA_ok.1 h2).2.2
  have h5 := congrArg List.length h3
  have h6 := congrArg List.length h4
  simp at h5 h6
  omega

/-- With one less, just its kinds are wrong. -/
theorem fits_less {S : SIn} {t d s : Int} {n : ByteArray} {vs : List VIn} (h : fitsA [S] t d s n vs = 0) {k : Nat} (hk : k < vs.length) : fitsA [S] t d s n (vs.take k ++ vs.drop (k + 1)) = 42 := by
  obtain ⟨h1, h2, h3⟩ := fitsA_ok.1 h
  have h8 := (rightE_iff.1 h1).2.2.2.2.1
  have h8' : vs.length ≤ 8 := by simpa [pe] using h8
  have hr : rightE (pe t d s n (vs.take k ++ vs.drop (k + 1))) = true := right_of h1 (by rw [List.length_append, List.length_take, List.length_drop]; omega) fun x hx => by
    rcases List.mem_append.1 hx with h | h
    · exact .inl (List.mem_of_mem_take h)
    · exact .inl (List.mem_of_mem_drop h)
  have hn : kindsB (vs.take k ++ vs.drop (k + 1)) S.fs = false := by
    cases h9 : kindsB (vs.take k ++ vs.drop (k + 1)) S.fs with
    | false => rfl
    | true =>
      exfalso
      have h5 := congrArg List.length (kindsB_iff.1 h9)
      have h6 := congrArg List.length (kindsB_iff.1 h3)
      simp only [List.length_map, List.length_append, List.length_take, List.length_drop] at h5 h6
      omega
  unfold fitsA
  rw [hr, fits_one, h2, hn]
  rfl

/-- With another one at a place it fits if that is of its kind. -/
theorem fits_other {S : SIn} {t d s : Int} {n : ByteArray} {vs : List VIn} (h : fitsA [S] t d s n vs = 0) {k : Nat} (hk : k < vs.length) {x : VIn} (hx : rightB (pv x) = true) {f : FIn} (hf : S.fs[k]? = some f) :
    (fitsA [S] t d s n (vs.take k ++ x :: vs.drop (k + 1)) = 0) ↔ x.1 = f.2 := by
  obtain ⟨h1, h2, h3⟩ := fitsA_ok.1 h
  have h8 := (rightE_iff.1 h1).2.2.2.2.1
  have h8' : vs.length ≤ 8 := by simpa [pe] using h8
  have hr : rightE (pe t d s n (vs.take k ++ x :: vs.drop (k + 1))) = true := right_of h1 (by simp; omega) fun y hy => by
    rcases List.mem_append.1 hy with h | h
    · exact .inl (List.mem_of_mem_take h)
    · rcases List.mem_cons.1 h with rfl | h
      · exact .inr hx
      · exact .inl (List.mem_of_mem_drop h)
  have hm := kindsB_iff.1 h3
  have hkf : k < S.fs.length := (List.getElem?_eq_some_iff.1 hf).1
  have e1 : vs.take k ++ x :: vs.drop (k + 1) = vs.set k x := by rw [List.set_eq_take_append_cons_drop, if_pos hk]
  rw [fitsA_ok, e1, kindsB_iff, List.map_set, hm]
  rw [e1] at hr
  constructor
  · rintro ⟨_, _, h9⟩
    have h10 := congrArg (·[k]?) h9
    simp [hkf] at h10
    obtain ⟨_, rfl⟩ := List.getElem?_eq_some_iff.1 hf
    exact h10
  · intro h9
    refine ⟨hr, h2, ?_⟩
    rw [h9]
    refine List.ext_getElem? fun j => ?_
    rw [List.getElem?_set]
    split
    · rename_i e
      subst e
      rw [List.getElem?_map, hf]
      simp [hkf]
    · rfl

end Go.Proofs.Ytfmlgckfcclojaa
namespace Go.Proofs.Ytfmlgckfcclojaa
open Go.RowKit Go.Lib Go.Op

/-- What is held while an event is made apart. -/
structure AP (w : World) (cs : List Value) (u : Value) (ws : List VIn) (W : World) : Prop where
  e : ∀ i x, cs[i]? = some x → W.cell? ⟨w.heap.size, i, none⟩ = some x
  r : ∀ i x, (evC 0 0 0 ⟨#[]⟩ (.slice none 0 0))[i]? = some x → W.cell? ⟨w.heap.size + 1, i, none⟩ = some x
  fe : ∀ i, W.frozen? ⟨w.heap.size, i, none⟩ = false
  fr : ∀ i, W.frozen? ⟨w.heap.size + 1, i, none⟩ = false
  own : VOwn W (w.heap.size + 2) u ws
  hb : Below w.heap.size w W
  lt : w.heap.size + 2 ≤ W.heap.size

section
variable {w W W' : World} {cs : List Value} {u u' : Value} {ws ws' : List VIn}
theorem AP.below (h : AP w cs u ws W) (hb : Below W.heap.size W W') : AP w cs u ws W' where
  e i x hx := ekeep hb (h.e i x hx)
  r i x hx := ekeep hb (h.r i x hx)
  fe i := (hb.frozen (p := ⟨w.heap.size, i, none⟩) (Nat.lt_of_lt_of_le (by dsimp only; omega) h.lt)).trans (h.fe i)
  fr i := (hb.frozen (p := ⟨w.heap.size + 1, i, none⟩) (Nat.lt_of_lt_of_le (by dsimp only; omega) h.lt)).trans (h.fr i)
  own := eowns_of_block h.own (fun g hg => hb.block g (h.own.lt g hg).2)
  hb := h.hb.trans (hb.mono h.hb.size)
  lt := Nat.le_trans h.lt hb.size
theorem AP.app (h : AP w cs u ws W) (ho : VOwn W' (w.heap.size + 2) u' ws') (hg : W.grownBy W' u.ownBlock) : AP w cs u' ws' W' := by
  have hb : Below (w.heap.size + 2) W W' := (Below.refl _ _).grown hg h.lt (fun q hq => (h.own.lt q hq).1)
  exact ⟨fun i x hx => (hb.cell (p := ⟨w.heap.size, i, none⟩) (by dsimp only; omega)).trans (h.e i x hx), fun i x hx => (hb.cell (p := ⟨w.heap.size + 1, i, none⟩) (by dsimp only; omega)).trans (h.r i x hx),
    fun i => (hb.frozen (p := ⟨w.heap.size, i, none⟩) (by dsimp only; omega)).trans (h.fe i), fun i => (hb.frozen (p := ⟨w.heap.size + 1, i, none⟩) (by dsimp only; omega)).trans (h.fr i), ho, h.hb.trans (hb.mono (by omega)), Nat.le_trans h.lt hb.size⟩
theorem AP.start (w : World) (t d s : Int) (n : ByteArray) (y : Value) : AP w (evC t d s n y) (.slice none 0 0) [] ((w.alloc (.cells #[.int .i64 t, .int .i64 d, .int .i64 s, .string n, y] 25)).alloc (.cells zeroC 25)) where
  e i x hx := ekeepAl _ (new_cell _ _ _ rfl (by rw [← hx]; simp [evC]))
  r i x hx := new_cell _ _ _ (by simp) (zeroC_at hx)
  fe i := keep_frozen _ _ (by simp) (new_frozen _ _ _ rfl)
  fr i := new_frozen _ _ _ (by simp)
  own := World.ownsRow_nil _ _ _ _
  hb := ((Below.refl _ _).alloc (Nat.le_refl _) _).alloc (by simp) _
  lt := by simp
end

/-- What apart leaves: the same event, its values in a new row. -/
def ApartPost (t d s : Int) (n : ByteArray) (vs : List VIn) (w : World) (e : Ending) (w' : World) : Prop :=
  ∃ a c, e = .returned (evV t d s n (.slice a vs.length c)) ∧ VRow w' a vs ∧ (∀ A, a = some A → w.heap.size ≤ A.block ∧ A.block < w'.heap.size) ∧ Below w.heap.size w w'

set_option maxHeartbeats 8000000 in
set_option maxRecDepth 100000 in
theorem apart_calls (t d s : Int) (n : ByteArray) (a : Option Addr) (c : Nat) (vs : List VIn) (w : World) (hn : n.size ≤ 281474976710656) (hv : VRow w a vs) (hl : vs.length ≤ 900) (hs : ∀ x ∈ vs, x.2.2.size ≤ 281474976710656) :
    Calls Try.prog 74 #[evV t d s n (.slice a vs.length c)] w (ApartPost t d s n vs w) := by
  have HV := Lib.hid hv
  obtain ⟨l, hll⟩ : ∃ l, vs.length = l := ⟨_, rfl⟩
  have Hl := Lib.hid hll
  have Hs := Lib.hid hs
  have HA := Lib.hid (AP.start w t d s n (.slice a l c))
  rw [hll] at hl ⊢
  clear hv hs hll
  go_enter Try.func74, Try.ntmps74
  go_wp2_with fail
  go_loopw [3, 9] (fun v i wr => ∃ k : Nat, i = .int .i64 k ∧ k ≤ l ∧ Hid (AP w (evC t d s n (.slice a l c)) v (vs.take k) wr)) (fun _ i _ => l - (intOf i).toNat)
  case atStart => exact ⟨0, rfl, Nat.zero_le _, HA⟩
  case round =>
    obtain ⟨k, rfl, hk, HPk⟩ := hrel
    by_cases hlt : k < l
    · obtain ⟨x, hx⟩ : ∃ x, vs[k]? = some x := ⟨_, List.getElem?_eq_getElem (by rw [Hl.out]; exact hlt)⟩
      obtain ⟨A, rfl, c0, c1, c2, _⟩ := (HV.out.below HPk.out.hb) k x hx
      unfold efld at c1 c2
      have Htk := Lib.hid (List.take_add_one (l := vs) (i := k))
      rw [hx] at Htk
      have hsx := Hs.out x (List.mem_of_getElem? hx)
      obtain ⟨k1, n1, s1⟩ := x
      dsimp only at c0 c1 c2 hsx
      have hs1 : s1.size ≤ maxLen := by unfold maxLen; omega
      have HCl := Lib.hid (fun W => sclone_calls s1 W hsx)
      have hk0 : (0 : Int) ≤ (k : Int) := by omega
      have hk1 : (k : Int) < (l : Int) := by omega
      obtain ⟨W1, hW1⟩ : ∃ W1, W1 = wr.alloc (.cells #[.int .i64 k1, .int .i64 n1, .string s1] 52) := ⟨_, rfl⟩
      have d0 : W1.cell? ⟨wr.heap.size, 0, none⟩ = some (.int .i64 k1) := by rw [hW1]; exact new_cell _ _ _ rfl rfl
      have d1 : W1.cell? ⟨wr.heap.size, 1, none⟩ = some (.int .i64 n1) := by rw [hW1]; exact new_cell _ _ _ rfl rfl
      have d2 : W1.cell? ⟨wr.heap.size, 2, none⟩ = some (.string s1) := by rw [hW1]; exact new_cell _ _ _ rfl rfl
      have df : W1.frozen? ⟨wr.heap.size, 2, none⟩ = false := by rw [hW1]; exact new_frozen _ _ _ rfl
      have hB1 : Below wr.heap.size wr W1 := by rw [hW1]; exact (Below.refl _ _).alloc (Nat.le_refl _) _
      have HB1 := Lib.hid hB1
      have hlt1 : wr.heap.size < W1.heap.size := by rw [hW1]; simp
      clear hx hsx
      have hb0 : w.heap.size + 2 ≤ wr.heap.size := HPk.out.lt
      go_upto_region 5 with fail
      rw [← hW1]
      clear hW1 hB1 c0 c1 c2
      go_upto_region 6 with (go_at_call 94; (with_reducible refine (HCl.out _).mono ?_); rintro e w2 ⟨rfl, hb2⟩; have HB2 := Lib.hid hb2; have e0 := ekeep hb2 d0; have e1 := ekeep hb2 d1; have e2 := ekeep hb2 d2; have ef := (hb2.frozen (p := ⟨wr.heap.size, 2, none⟩) hlt1).trans df; clear hb2)
      obtain ⟨W3, hW3⟩ : ∃ W3, W3 = w2.setCell ⟨wr.heap.size, 2, none⟩ (.string s1) := ⟨_, rfl⟩
      have hB3 : Below wr.heap.size w2 W3 := by rw [hW3]; exact Below.setCell (p := ⟨wr.heap.size, 2, none⟩) (Below.refl wr.heap.size w2) (Nat.le_refl _) _
      have f0 : W3.cell? ⟨wr.heap.size, 0, none⟩ = some (.int .i64 k1) := by rw [hW3, World.cell?_setCell_other _ _ _ _ (by simp)]; exact e0
      have f1 : W3.cell? ⟨wr.heap.size, 1, none⟩ = some (.int .i64 n1) := by rw [hW3, World.cell?_setCell_other _ _ _ _ (by simp)]; exact e1
      have f2 : W3.cell? ⟨wr.heap.size, 2, none⟩ = some (.string s1) := by rw [hW3]; exact World.cell?_setCell_same _ _ _ e2
      have HP3 := Lib.hid (HPk.out.below ((HB1.out.trans (HB2.out.mono (Nat.le_of_lt hlt1))).trans hB3))
      have HV3 := Lib.hid (VSl.one W3 k1 n1 s1 hs1)
      have HAp := Lib.hid (run_append_vals (w := W3.alloc (.cells #[.int .i64 k1, .int .i64 n1, .string s1] 52)) (B := w.heap.size + 2) HV3.out (HP3.out.own.alloc _) (by rw [List.length_take]; simp; omega) (by have := HP3.out.lt; simp; omega) 23)
      rw [← hW3]
      clear hW3 e0 e1 e2 ef d0 d1 d2 df hB3
      go_upto_region 7 with (at_builtin; obtain ⟨v6, w6, hr6, ho6, hg6⟩ := HAp.out; refine Lib.wpList_append_run _ rfl _ _ _ _ rfl _ _ rfl rfl _ _ hr6 ?_; have HP6 := Lib.hid ((HP3.out.below ((Below.refl _ _).alloc (Nat.le_refl _) _)).app ho6 hg6); clear hr6 ho6 hg6)
      have HP7 : Hid (AP w (evC t d s n (.slice (some A) l c)) v6 (vs.take (k + 1)) w6) := by
        show AP _ _ _ _ _
        rw [Htk.out]
        exact HP6.out
      go_wp2
      go_roundw
      case rel => exact ⟨k + 1, by go_num, by omega, HP7⟩
      case measure => simp [intOf]; omega
    · obtain rfl : k = l := by omega
      have hlen : (vs.take k).length = k := by rw [List.length_take, Hl.out]; omega
      have htk : vs.take k = vs := List.take_of_length_le (by rw [Hl.out]; exact Nat.le_refl _)
      obtain ⟨a8, c8, h8⟩ := vowns_slice HPk.out.own
      rw [hlen] at h8
      subst h8
      rw [htk] at HPk
      clear hlen htk
      have h3 := HPk.out.e 3 _ rfl
      have h4 := HPk.out.e 4 _ rfl
      have h0 := HPk.out.e 0 _ rfl
      have h1 := HPk.out.e 1 _ rfl
      have h2 := HPk.out.e 2 _ rfl
      have HCl := Lib.hid (fun W => sclone_calls n W hn)
      go_wp2_with (go_at_call 94; (with_reducible refine (HCl.out _).mono ?_); rintro e w2 ⟨rfl, hb2⟩; have HP2 := Lib.hid (HPk.out.below hb2); clear hb2; have h3 := HP2.out.e 3 _ rfl; have h4 := HP2.out.e 4 _ rfl; have h0 := HP2.out.e 0 _ rfl; have h1 := HP2.out.e 1 _ rfl; have h2 := HP2.out.e 2 _ rfl; have f3 := HP2.out.fe 3; have f4 := HP2.out.fe 4; have r0 := HP2.out.r 0 _ rfl; have r1 := HP2.out.r 1 _ rfl; have r2 := HP2.out.r 2 _ rfl; have r3 := HP2.out.r 3 _ rfl; have r4 := HP2.out.r 4 _ rfl; have g0 := HP2.out.fr 0; have g1 := HP2.out.fr 1; have g2 := HP2.out.fr 2; have g3 := HP2.out.fr 3; have g4 := HP2.out.fr 4)
      have k8 := HP2.out.lt
      have HO : Hid (VOwn (w2.setCell ⟨w.heap.size, 3, none⟩ (.string n)) (w.heap.size + 2) (.slice a8 k c8) vs) := eowns_set HP2.out.own (b := w.heap.size) (i := 3) (.string n) (by omega)
      have HO := Lib.hid (eowns_set HO.out (b := w.heap.size) (i := 4) (.slice a8 k c8) (by omega))
      have HO := Lib.hid (eowns_set HO.out (b := w.heap.size + 1) (i := 0) (.int .i64 t) (by omega))
      have HO := Lib.hid (eowns_set HO.out (b := w.heap.size + 1) (i := 1) (.int .i64 d) (by omega))
      have HO := Lib.hid (eowns_set HO.out (b := w.heap.size + 1) (i := 2) (.int .i64 s) (by omega))
      have HO := Lib.hid (eowns_set HO.out (b := w.heap.size + 1) (i := 3) (.string n) (by omega))
      have HO := Lib.hid (eowns_set HO.out (b := w.heap.size + 1) (i := 4) (.slice a8 k c8) (by omega))
      refine bodyPost_ret (v := evV t d s n (.slice a8 k c8)) (by simp [results, Try.results74, go_sem, r0, r1, r2, r3, r4]) rfl ?_
      refine ⟨a8, c8, by rw [Hl.out], VRow.of_owns HO.out (fun x hx => by have := Hs.out x hx; unfold maxLen; omega) (by rw [Hl.out]), fun A hA => ?_, ?_⟩
      · subst hA
        have h7 := HO.out.lt A.block rfl
        exact ⟨by omega, h7.2⟩
      · exact below5 ((HP2.out.hb.setCell (p := ⟨w.heap.size, 3, none⟩) (Nat.le_refl _) _).setCell (p := ⟨w.heap.size, 4, none⟩) (Nat.le_refl _) _) (Nat.le_succ _) _ _ _ _ _

end Go.Proofs.Ytfmlgckfcclojaa
namespace Go.Proofs.Ytfmlgckfcclojaa
open Go.RowKit Go.Lib Go.Op Go.Shelf

attribute [local go_sem] Oper.semAt_some

/-- An event, as it came in. -/
structure EIn where
  ts : Int
  dep : Int
  seq : Int
  nm : ByteArray
  a : Option Addr
  c : Nat
  vs : List VIn
def EIn.v (x : EIn) : Value := evV x.ts x.dep x.seq x.nm (.slice x.a x.vs.length x.c)
def EIn.p (x : EIn) : PEv := pe x.ts x.dep x.seq x.nm x.vs
def EIn.cells (x : EIn) : List Value := evC x.ts x.dep x.seq x.nm (.slice x.a x.vs.length x.c)

/-- Events in a row: their own cells. -/
def ECells (w : World) (a : Option Addr) (L : List EIn) : Prop := ∀ j x, L[j]? = some x → ∃ A, a = some A ∧ w.cell? (A.add (j * 5)) = some (.int .i64 x.ts) ∧ w.cell? (efld A 5 j 1) = some (.int .i64 x.dep) ∧ w.cell? (efld A 5 j 2) = some (.int .i64 x.seq) ∧ w.cell? (efld A 5 j 3) = some (.string x.nm) ∧ w.cell? (efld A 5 j 4) = some (.slice x.a x.vs.length x.c)

/-- What a round keeps: cells, but for those of the blocks T. -/
def OKp (T : Nat → Obj → Prop) (W W' : World) : Prop := W.heap.size ≤ W'.heap.size ∧ ∀ (b : Nat) (o : Obj), W.heap[b]? = some o → o.isCells = true → ¬ T b o → W'.heap[b]? = some o
theorem OKp.refl (T : Nat → Obj → Prop) (W : World) : OKp T W W := ⟨Nat.le_refl _, fun _ _ h _ _ => h⟩
theorem OKp.trans {T : Nat → Obj → Prop} {A B C : World} (h : OKp T A B) (k : OKp T B C) : OKp T A C := ⟨Nat.le_trans h.1 k.1, fun b o hb ho hT => k.2 b o (h.2 b o hb ho hT) ho hT⟩
theorem OKp.of_below {T : Nat → Obj → Prop} {W W' : World} (h : Below W.heap.size W W') : OKp T W W' := ⟨h.size, fun b _ hb _ _ => (h.block b (Array.getElem?_eq_some_iff.1 hb).1).trans hb⟩
theorem ocells_of_cell {W : World} {p : Addr} {v : Value} (h : W.cell? p = some v) : ∃ o, W.heap[p.block]? = some o ∧ o.isCells = true := by
  cases ho : W.heap[p.block]? with
  | none => simp [World.cell?, ho] at h
  | some o => cases o <;> simp_all [World.cell?, Obj.isCells]
theorem OKp.cell {T : Nat → Obj → Prop} {W W' : World} (h : OKp T W W') {p : Addr} {v : Value} (hp : W.cell? p = some v) (hT : ∀ o, W.heap[p.block]? = some o → ¬ T p.block o) : W'.cell? p = some v := by
  obtain ⟨o, ho, hc⟩ := ocells_of_cell hp
  exact (World.cell?_of_block ((h.2 _ o ho hc (hT o ho)).trans ho.symm)).trans hp
theorem ogrown_of_below {w w' : World} (h : Below w.heap.size w w') : w.grownBy w' none := ⟨h.os, h.tape, h.output, h.size, fun k hk _ => h.block k hk⟩
theorem oadd_block (a : Addr) (k : Nat) : (a.add k).block = a.block := by unfold Addr.add; split <;> rfl

theorem ECells.kept {T : Nat → Obj → Prop} {W W' : World} (h : OKp T W W') {a : Option Addr} {L : List EIn} (hr : ECells W a L) (hT : ∀ A o, a = some A → W.heap[A.block]? = some o → ¬ T A.block o) : ECells W' a L := fun j x hj => by
  obtain ⟨A, e, h0, h1, h2, h3, h4⟩ := hr j x hj
  have hb : ∀ f, (efld A 5 j f).block = A.block := fun f => oadd_block A _
  exact ⟨A, e, h.cell h0 (by rw [oadd_block]; exact fun o => hT A o e), h.cell h1 (by rw [hb]; exact fun o => hT A o e), h.cell h2 (by rw [hb]; exact fun o => hT A o e), h.cell h3 (by rw [hb]; exact fun o => hT A o e), h.cell h4 (by rw [hb]; exact fun o => hT A o e)⟩

theorem takeWhile_at {α : Type} {q : α → Bool} : ∀ {l : List α} {k : Nat} {x : α}, l[k]? = some x → (∀ y ∈ l.take k, q y = true) → (q x = true → k < (l.takeWhile q).length ∧ l.take (k + 1) <+: l.takeWhile q) ∧ (q x = false → l.takeWhile q = l.take k)
  | [], k, x, h, _ => by simp at h
  | y :: l, 0, x, h, _ => by
    simp at h
    subst h
    refine ⟨fun hx => ?_, fun hx => ?_⟩
    · rw [List.takeWhile_cons, if_pos hx]; simp
    · rw [List.takeWhile_cons, if_neg (by simp [hx])]; simp
  | y :: l, k + 1, x, h, ha => by
    have hy : q y = true := ha y (by simp)
    have ih := takeWhile_at (q := q) (l := l) (k := k) (x := x) (by simpa using h) (fun z hz => ha z (by simp [hz]))
    rw [List.takeWhile_cons, if_pos hy]
    refine ⟨fun hx => ⟨by simpa using (ih.1 hx).1, ?_⟩, fun hx => by rw [(ih.2 hx)]; simp⟩
    rw [List.take_succ_cons]
    exact List.cons_prefix_cons.2 ⟨rfl, (ih.1 hx).2⟩

end Go.Proofs.Ytfmlgckfcclojaa
