/- The live question of the layer's statements is answered true. -/
import Derived.Test.YtppgecbjdkfohaaV9
import Derived.Lib.SlBytesConst
namespace Go.Proofs.Ytppgecbjdkfohaa
open Go.RowKit Go.Lib Go.Op

theorem size_small {s : ByteArray} (h : s.size ≤ 100) : s.size ≤ maxLen := by unfold maxLen; omega

theorem cells3 {W w' : World} (hb : Below W.heap.size W w') {b : Nat} {x y z : Value} (h0 : W.cell? ⟨b, 0, none⟩ = some x) (h1 : W.cell? ⟨b, 1, none⟩ = some y) (h2 : W.cell? ⟨b, 2, none⟩ = some z) :
    w'.cell? ⟨b, 0, none⟩ = some x ∧ w'.cell? ⟨b, 1, none⟩ = some y ∧ w'.cell? ⟨b, 2, none⟩ = some z ∧ b < w'.heap.size :=
  ⟨(hb.cell (World.block_lt_of_cell? _ _ h0)).trans h0, (hb.cell (World.block_lt_of_cell? _ _ h1)).trans h1, (hb.cell (World.block_lt_of_cell? _ _ h2)).trans h2, Nat.lt_of_lt_of_le (World.block_lt_of_cell? _ _ h0) hb.size⟩

theorem cellsN {w1 w2 : World} {x y z : Value} (hb : Below (w1.heap.size + 1) (w1.alloc (.cells #[x, y, z] 52)) w2) :
    w2.cell? ⟨w1.heap.size, 0, none⟩ = some x ∧ w2.cell? ⟨w1.heap.size, 1, none⟩ = some y ∧ w2.cell? ⟨w1.heap.size, 2, none⟩ = some z ∧ w1.heap.size < w2.heap.size := by
  have hs : w1.heap.size < (w1.alloc (.cells #[x, y, z] 52)).heap.size := by simp
  refine ⟨(hb.cell (p := ⟨w1.heap.size, 0, none⟩) (Nat.lt_succ_self _)).trans (by simp), (hb.cell (p := ⟨w1.heap.size, 1, none⟩) (Nat.lt_succ_self _)).trans (by simp), (hb.cell (p := ⟨w1.heap.size, 2, none⟩) (Nat.lt_succ_self _)).trans (by simp), Nat.lt_of_lt_of_le hs hb.size⟩

theorem brow_new (w : World) (bs : List UInt8) (cs : Array Value) (t : TypeId) (fr : Nat × Nat) (h : cs.toList = byteCells bs) (c : Nat) (h1 : bs.length ≤ c) (h2 : c ≤ maxLen) : BRow (w.alloc (.cells cs t fr)) (.slice (some ⟨w.heap.size, 0, none⟩) bs.length c) bs :=
  ⟨_, c, rfl, h1, h2, (fun e => by cases e), fun j x hj => ⟨_, rfl, cells_new w bs cs t fr h j _ (by simp [byteCells, hj])⟩⟩

/-- What is owned, at its block. -/
theorem owns_at {w : World} {B : Nat} {v : Value} {n : Nat} {bs : List UInt8} (h : w.ownsRow B 5 1 v n (byteCells bs)) (hn : 0 < n) : ∃ g c, v = .slice (some ⟨g, 0, none⟩) n c ∧ n ≤ c ∧ c ≤ maxLen ∧ B ≤ g ∧ g < w.heap.size ∧ ∀ j x, bs[j]? = some x → w.cell? ⟨g, j, none⟩ = some (.int .u8 x.toNat) := by
  have hc := fun g hg => h.cells (g := g) hg
  have hl := fun g hg => h.lt g hg
  rcases h.2 with ⟨rfl, h0⟩ | ⟨g, cap, cur, rfl, hB, _, h1, h2, _⟩
  · omega
  · refine ⟨g, cap, rfl, h1, h2, hB, (hl g rfl).2, fun j x hj => ?_⟩
    have h3 := hc g rfl j (.int .u8 x.toNat) (by simp [byteCells, hj])
    rw [show ((⟨g, 0, none⟩ : Addr).add j) = ⟨g, j, none⟩ by unfold Addr.add; split <;> simp_all] at h3
    exact h3

theorem vget_some {w : World} {v : Value} {bs : List UInt8} (h : BRow w v bs) {k n : Int} {s : List UInt8} {m : Nat} {sB : ByteArray} (hg : getV bs = some (⟨k, n, s⟩, m)) (hs : strB s = sB) :
    Calls Try.prog 88 #[v] w fun e w' => e = .returned (.tuple #[.agg #[.int .i64 k, .int .i64 n, .string sB], .int .i64 m, .bool true]) ∧ Below w.heap.size w w' :=
  (vget_calls w v bs h).mono fun e w' ⟨h1, h2⟩ => ⟨by rw [h1, hg, ← hs]; rfl, h2⟩
theorem vget_none {w : World} {v : Value} {bs : List UInt8} (h : BRow w v bs) (hg : getV bs = none) :
    Calls Try.prog 88 #[v] w fun e w' => e = .returned (.tuple #[.agg #[.int .i64 0, .int .i64 0, .string ⟨#[]⟩], .int .i64 0, .bool false]) ∧ Below w.heap.size w w' :=
  (vget_calls w v bs h).mono fun e w' ⟨h1, h2⟩ => ⟨by rw [h1, hg]; rfl, h2⟩

end Go.Proofs.Ytppgecbjdkfohaa
