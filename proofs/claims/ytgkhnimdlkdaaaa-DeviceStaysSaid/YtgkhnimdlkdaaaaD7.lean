/- 'file' of a device: the file of a name, made if it isn't there. -/
import Derived.Test.YtgkhnimdlkdaaaaD6
import Derived.Deep.RegionWith
namespace Go.Proofs.Ytgkhnimdlkdaaaa
open Go.RowKit Go.Lib Go.Maps

/-- What 'file' leaves where there was none. -/
def FNew (fb c : Nat) (D : DataW Unit) (k : List UInt8) (w w' : World) : Prop :=
  w'.ownsMap Try.prog 9 ptrR fb (c + 1) (D.put (.string k) (.lit (.int .u64 (w.heap.size : Nat)))) ∧
  w'.heap[w.heap.size]? = some (.cells #[.slice none 0 0, .int .i64 0, .bool true] 68 (0, 0)) ∧ Fr (fun b => b = fb) w w' ∧ w.heap.size + 1 ≤ w'.heap.size

theorem fnew_of {fb c : Nat} {D : DataW Unit} {k : List UInt8} {w W w2 w3 : World} (hW : W.heap = (w.alloc (.cells #[.slice none 0 0, .int .i64 0, .bool true] 68)).heap) (hWo : W.os = w.os ∧ W.tape = w.tape ∧ W.output = w.output) (hfb : fb < w.heap.size)
    (hb : Below W.heap.size W w2) (hm : w3.ownsMap Try.prog 9 ptrR fb (c + 1) (D.put (.string k) (.lit (.int .u64 (w.heap.size : Nat))))) (ht : w2.grownBy w3 (some fb)) : FNew fb c D k w w3 := by
  have hsz : W.heap.size = w.heap.size + 1 := by rw [hW]; simp
  have h1 : w2.heap[w.heap.size]? = some (.cells #[.slice none 0 0, .int .i64 0, .bool true] 68 (0, 0)) := by
    rw [hb.block _ (by omega), hW]
    exact heap_alloc_new w _
  refine ⟨hm, ?_, ⟨ht.os.trans (hb.os.trans hWo.1), ht.tape.trans (hb.tape.trans hWo.2.1), ht.output.trans (hb.output.trans hWo.2.2), ?_, fun i hi hn => ?_⟩, ?_⟩
  · rw [ht.block _ (by have := hb.size; omega) (by simp; omega)]
    exact h1
  · have := hb.size; have := ht.size; omega
  · rw [ht.block i (by have := hb.size; omega) (by simpa using hn), hb.block i (by omega), hW]
    exact Below.heap_alloc w _ _ hi
  · have := hb.size; have := ht.size; omega

/-- strings.Clone in the world behind the new file's block, with what the store of it does then. -/
theorem sclone_file (db fb c : Nat) (D : DataW Unit) (s : ByteArray) (w W : World) (c1 : w.cell? ⟨db, 1, none⟩ = some (.map (some fb))) (hc : w.ownsMap Try.prog 9 ptrR fb c D) (hcn : c < maxLen) (hs' : s.size ≤ 281474976710656)
    (hW : W.heap = (w.alloc (.cells #[.slice none 0 0, .int .i64 0, .bool true] 68)).heap) (hWo : W.os = w.os ∧ W.tape = w.tape ∧ W.output = w.output) :
    Calls Try.prog 50 #[.string s] W fun e w2 => e = .returned (.string s) ∧ w2.cell? ⟨db, 1, none⟩ = some (.map (some fb)) ∧
      ∃ w3, (Instr.mapUpdate 62 (.map (some fb)) (.string s) (.pointer (some ⟨w.heap.size, 0, none⟩))).run Try.prog w2 = .ok () w3 ∧ Hid (FNew fb c D s.data.toList w w3) := by
  have hs : s.size ≤ maxLen := by unfold maxLen; omega
  have hdb : db < w.heap.size := World.block_lt_of_cell? w _ c1
  have hfb := hc.lt
  have hsz : W.heap.size = w.heap.size + 1 := by rw [hW]; simp
  refine (sclone_calls s W hs').mono ?_
  rintro e w2 ⟨rfl, hb⟩
  have hb0 : ∀ b, b < w.heap.size → w2.heap[b]? = w.heap[b]? := fun b hb1 => by
    rw [hb.block b (by omega), hW]
    exact Below.heap_alloc w _ _ hb1
  obtain ⟨w3, hrun, hm, ht⟩ := (ownsMap_of_block hc (hb0 fb hfb)).update lawS Try.underlying62 hcn (val := .pointer (some ⟨w.heap.size, 0, none⟩)) (WideMaps.keyOf_string_mk Try.underlying9 hs) rfl
  exact ⟨rfl, (World.cell?_of_block (hb0 db hdb)).trans c1, w3, hrun, fnew_of hW hWo hfb hb hm ht⟩

set_option maxHeartbeats 1000000 in
set_option maxRecDepth 100000 in
theorem file_new (db fb c : Nat) (D : DataW Unit) (s : ByteArray) (w : World) (c1 : w.cell? ⟨db, 1, none⟩ = some (.map (some fb))) (hc : w.ownsMap Try.prog 9 ptrR fb c D) (hcn : c < maxLen) (hs' : s.size ≤ 281474976710656)
    (hl : (Instr.lookup 62 (.map (some fb)) (.string s) false).run Try.prog w = .ok (.pointer none) w) :
    Calls Try.prog 38 #[.pointer (some ⟨db, 0, none⟩), .string s] w fun e w' => e = .returned (.pointer (some ⟨w.heap.size, 0, none⟩)) ∧ FNew fb c D s.data.toList w w' := by
  have hdb : db < w.heap.size := World.block_lt_of_cell? w _ c1
  have Hc := Lib.hid hc
  clear hc
  go_enter Try.func38, Try.ntmps38
  go_wp2_with fail
  go_region_with (go_at_call 50; refine (sclone_file db fb c D s w _ c1 Hc.out hcn hs' ?_ ?_).mono ?_; exact rfl; exact ⟨rfl, rfl, rfl⟩; rintro e w2 ⟨rfl, c1', w3, hrun, H3⟩)
  all_goals
    go_wp2
    go_ret
    exact ⟨rfl, H3.out⟩

set_option maxHeartbeats 400000 in
set_option maxRecDepth 100000 in
theorem file_old (db fb p : Nat) (s : ByteArray) (w : World) (c1 : w.cell? ⟨db, 1, none⟩ = some (.map (some fb)))
    (hl : (Instr.lookup 62 (.map (some fb)) (.string s) false).run Try.prog w = .ok (.pointer (some ⟨p, 0, none⟩)) w) :
    Calls Try.prog 38 #[.pointer (some ⟨db, 0, none⟩), .string s] w fun e w' => e = .returned (.pointer (some ⟨p, 0, none⟩)) ∧ w = w' := by
  go_enter Try.func38, Try.ntmps38
  go_wp2_with fail
  go_ret
  exact ⟨rfl, rfl⟩

end Go.Proofs.Ytgkhnimdlkdaaaa
