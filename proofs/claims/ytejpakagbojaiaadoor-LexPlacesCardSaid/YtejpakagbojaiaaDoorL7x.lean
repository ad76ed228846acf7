/- Words: tokens in a row, as they are read; what a token says; the live question. -/
import Derived.Test.YtejpakagbojaiaaDoorL6x
namespace Go.Proofs.YtejpakagbojaiaaDoor
open Go.RowKit Go.Lib Go.Op

theorem flatX_at : ∀ {l : List XTok} {j : Nat} {t : XTok}, l[j]? = some t → ∀ r u, t.cells[r]? = some u → (flatX l)[j * 3 + r]? = some u
  | [], j, x, h, _, _, _ => by simp at h
  | y :: L, 0, x, h, r, u, hu => by
    simp at h
    subst h
    have hr : r < y.cells.length := (List.getElem?_eq_some_iff.1 hu).1
    rw [flatX, Nat.zero_mul, Nat.zero_add, List.getElem?_append_left hr]
    exact hu
  | y :: L, j + 1, x, h, r, u, hu => by
    have hl : y.cells.length = 3 := by simp [XTok.cells]
    rw [flatX, List.getElem?_append_right (by rw [hl]; omega), hl, show (j + 1) * 3 + r - 3 = j * 3 + r by omega]
    exact flatX_at (by simpa using h) r u hu

/-- Tokens in a row: their cells. -/
def XCells (w : World) (a : Option Addr) (l : List XTok) : Prop := ∀ j t, l[j]? = some t → ∃ g, a = some ⟨g, 0, none⟩ ∧ w.cell? ⟨g, j * 3, none⟩ = some (.int .i64 t.k) ∧ w.cell? ⟨g, j * 3 + 1, none⟩ = some (.string (strB t.b)) ∧ w.cell? ⟨g, j * 3 + 2, none⟩ = some (.int .i64 t.at_)
theorem XCells.below {w w' : World} {a : Option Addr} {l : List XTok} (h : XCells w a l) (hb : Below w.heap.size w w') : XCells w' a l := fun j t hj => by
  obtain ⟨g, e, h0, h1, h2⟩ := h j t hj
  have k : ∀ {p : Addr} {v : Value}, w.cell? p = some v → w'.cell? p = some v := fun {p v} hp => (hb.cell (World.block_lt_of_cell? _ _ hp)).trans hp
  exact ⟨g, e, k h0, k h1, k h2⟩
theorem XOwn.cells {w : World} {B : Nat} {v : Value} {l : List XTok} (h : XOwn w B v l) : ∃ a c, v = .slice a l.length c ∧ XCells w a l := by
  rcases h.2 with ⟨rfl, h0⟩ | ⟨g, cap, cur, rfl, hB, hg, hn, hc, hs, ht⟩
  · exact ⟨none, 0, by rw [h0], fun j t hj => by have := (List.getElem?_eq_some_iff.1 hj).1; omega⟩
  · refine ⟨_, cap, rfl, fun j t hj => ⟨g, rfl, ?_⟩⟩
    have k2 : ∀ r u, t.cells[r]? = some u → w.cell? ⟨g, j * 3 + r, none⟩ = some u := fun r u hu => by
      have h1 := flatX_at hj r u hu
      have h2 := (List.getElem?_eq_some_iff.1 h1).1
      rw [cell_of_row w g _ cur 29 (0, 0) hg]
      rw [← ht, List.getElem?_take, if_pos (by rw [← flatX_len]; exact h2)] at h1
      simpa using h1
    exact ⟨k2 0 _ rfl, k2 1 _ rfl, k2 2 _ rfl⟩
/-- As the walk names them, from the row's address on. -/
theorem XCells.at {w : World} {a : Option Addr} {l : List XTok} (h : XCells w a l) {j : Nat} {t : XTok} (hj : l[j]? = some t) : ∃ A : Addr, a = some A ∧ w.cell? (A.add (j * 3)) = some (.int .i64 t.k) ∧ w.cell? ⟨(A.add (j * 3)).block, (A.add (j * 3)).off + 1, none⟩ = some (.string (strB t.b)) ∧ w.cell? ⟨(A.add (j * 3)).block, (A.add (j * 3)).off + 2, none⟩ = some (.int .i64 t.at_) := by
  obtain ⟨g, e, h0, h1, h2⟩ := h j t hj
  have hadd : (⟨g, 0, none⟩ : Addr).add (j * 3) = ⟨g, j * 3, none⟩ := by unfold Addr.add; split <;> simp_all
  exact ⟨_, e, by rw [hadd]; exact h0, by rw [hadd]; exact h1, by rw [hadd]; exact h2⟩

theorem catB (a b : List UInt8) : strB a ++ strB b = strB (a ++ b) := by
  apply ByteArray.ext
  apply Array.ext'
  simp [strB]

set_option maxHeartbeats 1000000 in
set_option maxRecDepth 100000 in
theorem said_calls (k : Nat) (b : List UInt8) (a : Nat) (w : World) (hb : b.length ≤ 1000) : Calls Tryd.prog 8 #[.agg #[.int .i64 k, .string (strB b), .int .i64 a]] w fun e w' => e = .returned (.string (strB (saidX ⟨k, b, a⟩))) ∧ Below w.heap.size w w' := by
  have hb0 : Below w.heap.size w (w.alloc (.cells #[.int .i64 k, .string (strB b), .int .i64 a] 29)) := (Below.refl _ _).alloc (Nat.le_refl _) _
  have hsz : (strB b).size ≤ 1000 := by rw [strB_size]; exact hb
  by_cases hk : k = 3
  · subst hk
    have hs : (⟨#[39]⟩ : ByteArray) ++ strB b ++ ⟨#[39]⟩ = strB (saidX ⟨3, b, a⟩) := by
      show strB [39] ++ strB b ++ strB [39] = _
      rw [catB, catB]
      unfold saidX
      simp
    have Hs := Lib.hid hs
    have HB0 := Lib.hid hb0
    clear hs hb0 hb
    have hc1 : (⟨#[39]⟩ : ByteArray).size = 1 := rfl
    go_enter Tryd.func8, Tryd.ntmps8
    go_wp2
    go_ret
    exact ⟨by rw [← Hs.out]; rfl, HB0.out⟩
  · have hs : strB b = strB (saidX ⟨k, b, a⟩) := by unfold saidX; rw [if_neg hk]
    have Hs := Lib.hid hs
    have HB0 := Lib.hid hb0
    have hd : ((k : Int) == 3) = false := by rw [beq_eq_false_iff_ne]; omega
    clear hs hb0 hb
    go_enter Tryd.func8, Tryd.ntmps8
    go_wp2
    go_ret
    exact ⟨by rw [← Hs.out]; rfl, HB0.out⟩

set_option maxHeartbeats 1000000 in
set_option maxRecDepth 100000 in
theorem key_seq (w : World) : Calls Tryd.prog 9 #[.string ⟨#[115, 101, 113]⟩] w fun e w' => e = .returned (.bool true) ∧ w = w' := by
  go_enter Tryd.func9, Tryd.ntmps9
  go_wp2
  go_ret
  exact ⟨rfl, rfl⟩

set_option maxHeartbeats 1000000 in
set_option maxRecDepth 100000 in
theorem key_se (w : World) : Calls Tryd.prog 9 #[.string ⟨#[115, 101]⟩] w fun e w' => e = .returned (.bool false) ∧ w = w' := by
  go_enter Tryd.func9, Tryd.ntmps9
  go_wp2
  go_ret
  exact ⟨rfl, rfl⟩

end Go.Proofs.YtejpakagbojaiaaDoor
