/- Bytes that can be read; two bytes of a number, put and read. -/
import Derived.Test.YtefcbgnckgapgaaF1
import Derived.Lib.ConvBytes
import Derived.Laws.BytesArg
import Derived.Lib.AppendStr
import Derived.Laws.MakeOwn
import Derived.Maps.AppendAt
import Derived.Deep.QuietTactic
import Derived.BigQuiet
import Derived.IntWalk
import Derived.Lib.BufferWrite
namespace Go.Proofs.Ytefcbgnckgapgaa
open Go.RowKit Go.Lib

theorem infoB8 : (Try.prog.info? 5).map (fun i => (i.zero, i.size, i.bytes)) = some (some (.int .u8 0), 1, 1) := by kernel_rfl

/-- Bytes that can be read. -/
def BRow (w : World) (v : Value) (bs : List UInt8) : Prop :=
  ∃ a c, v = .slice a bs.length c ∧ bs.length ≤ c ∧ c ≤ maxLen ∧ (a = none → c = 0) ∧ ∀ j x, bs[j]? = some x → ∃ A, a = some A ∧ w.cell? (A.add j) = some (.int .u8 x.toNat)

theorem fadd_block (a : Addr) (n : Nat) : (a.add n).block = a.block := by unfold Addr.add; split <;> rfl
theorem BRow.below {w w' : World} {v : Value} {bs : List UInt8} (h : BRow w v bs) (hb : Below w.heap.size w w') : BRow w' v bs := by
  obtain ⟨a, c, h1, h2, h3, h4, h5⟩ := h
  refine ⟨a, c, h1, h2, h3, h4, fun j x hj => ?_⟩
  obtain ⟨A, e1, e2⟩ := h5 j x hj
  exact ⟨A, e1, (hb.cell (World.block_lt_of_cell? _ _ e2)).trans e2⟩

theorem fcell_of_blk {w : World} {b k : Nat} {cs : Array Value} {e : TypeId} {fr : Nat × Nat} (h : w.heap[b]? = some (.cells cs e fr)) {v : Value} (hv : cs[k]? = some v) : w.cell? ⟨b, k, none⟩ = some v := by simp [World.cell?, h, hv]

theorem ret_num {k : IntKind} {a b : Int} (h : a = b) : Ending.returned (.int k a) = .returned (.int k b) := by rw [h]

theorem ofNat_toNat {n : Nat} (h : n < 256) : (UInt8.ofNat n).toNat = n := by simp; omega

theorem cells_new (w : World) (bs : List UInt8) (cs : Array Value) (t : TypeId) (fr : Nat × Nat) (h : cs.toList = byteCells bs) : ∀ j u, (byteCells bs)[j]? = some u → (w.alloc (.cells cs t fr)).cell? ((⟨w.heap.size, 0, none⟩ : Addr).add j) = some u := by
  intro j u hu
  have hadd : (⟨w.heap.size, 0, none⟩ : Addr).add j = ⟨w.heap.size, j, none⟩ := by unfold Addr.add; split <;> simp_all
  rw [hadd]
  refine fcell_of_blk (heap_alloc_new w _) ?_
  rw [← h] at hu
  simpa using hu

/-- A record's frame. -/
def frameB (l : List UInt8) : List UInt8 := [82] ++ [UInt8.ofNat (l.length / 256), UInt8.ofNat (l.length % 256)] ++ [UInt8.ofNat (sumN l / 256), UInt8.ofNat (sumN l % 256)] ++ l

theorem frameB_length (l : List UInt8) : (frameB l).length = l.length + 5 := by simp [frameB]

/-- What Put gives. -/
def putB (l : List UInt8) : List UInt8 := if 4096 < l.length then [] else frameB l

end Go.Proofs.Ytefcbgnckgapgaa
