/- The statement FrameWrong: what a byte that is changed does to a frame, in plain words. -/
import Derived.Test.YtmecpgnmeefpjaaF8
namespace Go.Proofs.Ytmecpgnmeefpjaa
open Go.RowKit Go.Lib

/-- All bytes, and one for each. -/
def addN : List UInt8 → Nat
  | [] => 0
  | c :: l => c.toNat + 1 + addN l

theorem foldl_add : ∀ (l : List UInt8) (p : Nat × Nat), p.1 < 251 → (l.foldl sumStep p).1 = (p.1 + addN l) % 251
  | [], p, h => by simp [addN]; omega
  | c :: l, p, h => by
    rw [List.foldl_cons, foldl_add l (sumStep p c) (sumStep_lt p c).1]
    simp only [sumStep, addN]
    omega

theorem sumN_low (l : List UInt8) : sumN l % 256 = (1 + addN l) % 251 := by
  have h := foldl_add l (1, 1) (by decide)
  have h2 := sumP_lt l
  have h3 : (sumP l).1 = (1 + addN l) % 251 := h
  unfold sumN
  omega

theorem addN_set : ∀ (l : List UInt8) (j : Nat) (c x : UInt8), l[j]? = some x → addN (l.set j c) + x.toNat = addN l + c.toNat
  | y :: l, 0, c, x, h => by simp at h; subst h; simp [addN]; omega
  | y :: l, j + 1, c, x, h => by
    have h1 : l[j]? = some x := by simpa using h
    have ih := addN_set l j c x h1
    simp only [List.set_cons_succ, addN]
    omega

theorem sumN_changed {l : List UInt8} {j : Nat} {c x : UInt8} (h : l[j]? = some x) (hne : ((c.toNat : Int) - x.toNat) % 251 ≠ 0) : sumN (l.set j c) ≠ sumN l := by
  intro e
  have h1 := sumN_low l
  have h2 := sumN_low (l.set j c)
  have h3 := addN_set l j c x h
  rw [e] at h2
  omega

theorem byteN_set_other (l : List UInt8) {i j : Nat} (c : UInt8) (h : i ≠ j) : byteN (l.set j c) i = byteN l i := by
  unfold byteN
  rw [List.getD_eq_getElem?_getD, List.getElem?_set_ne (by omega), ← List.getD_eq_getElem?_getD]
theorem byteN_set_same (l : List UInt8) {j : Nat} (c : UInt8) (h : j < l.length) : byteN (l.set j c) j = c.toNat := by
  unfold byteN
  rw [List.getD_eq_getElem?_getD, List.getElem?_set_self (by omega)]
  rfl

theorem frameB_b (r : List UInt8) : byteN (frameB r) 0 = 82 ∧ byteN (frameB r) 1 = r.length / 256 % 256 ∧ byteN (frameB r) 2 = r.length % 256 ∧ byteN (frameB r) 3 = sumN r / 256 % 256 ∧ byteN (frameB r) 4 = sumN r % 256 := by
  refine ⟨rfl, ?_, ?_, ?_, ?_⟩
  · show (UInt8.ofNat (r.length / 256)).toNat = _; simp
  · show (UInt8.ofNat (r.length % 256)).toNat = _; simp
  · show (UInt8.ofNat (sumN r / 256)).toNat = _; simp
  · show (UInt8.ofNat (sumN r % 256)).toNat = _; simp

/-- The first byte changed. -/
theorem wrong_mark {r : List UInt8} {c : UInt8} (h : c.toNat ≠ 82) : firstB ((frameB r).set 0 c) = none := by
  refine firstB_mark (by rw [List.length_set, frameB_length]; omega) ?_
  rw [byteN_set_same _ _ (by rw [frameB_length]; omega)]
  exact h

/-- A byte of the sum changed. -/
theorem wrong_sum {r : List UInt8} {c : UInt8} {k : Nat} (hr : r.length ≤ 4096) (hk : k = 3 ∨ k = 4) (h : c.toNat ≠ byteN (frameB r) k) : firstB ((frameB r).set k c) = none := by
  obtain ⟨b0, b1, b2, b3, b4⟩ := frameB_b r
  have hlen : ((frameB r).set k c).length = r.length + 5 := by rw [List.length_set, frameB_length]
  have h0 : byteN ((frameB r).set k c) 0 = 82 := by rw [byteN_set_other _ _ (by omega), b0]
  have hs : saysN ((frameB r).set k c) = r.length := by
    rw [saysN, byteN_set_other _ _ (by omega), byteN_set_other _ _ (by omega), b1, b2]; omega
  have hd : ((frameB r).set k c).drop 5 = r := by
    have : (frameB r).drop 5 = r := rfl
    rw [List.drop_set_of_lt (by omega), this]
  have ht : (((frameB r).set k c).drop 5).take (saysN ((frameB r).set k c)) = r := by rw [hd, hs]; exact List.take_length
  have hsn := sumN_lt r
  have hc := c.toNat_lt
  refine firstB_sum (by omega) h0 (by omega) (by omega) ?_
  rw [ht]
  rcases hk with rfl | rfl
  · rw [byteN_set_same _ _ (by rw [frameB_length]; omega), byteN_set_other _ _ (by omega), b4]
    rw [b3] at h
    omega
  · rw [byteN_set_other _ _ (by omega), byteN_set_same _ _ (by rw [frameB_length]; omega), b3]
    rw [b4] at h
    omega

/-- A byte of the record changed by what the sum sees. -/
theorem wrong_rec {r : List UInt8} {c x : UInt8} {j : Nat} (hr : r.length ≤ 4096) (hx : r[j]? = some x) (h : ((c.toNat : Int) - x.toNat) % 251 ≠ 0) : firstB ((frameB r).set (j + 5) c) = none := by
  obtain ⟨b0, b1, b2, b3, b4⟩ := frameB_b r
  have hlen : ((frameB r).set (j + 5) c).length = r.length + 5 := by rw [List.length_set, frameB_length]
  have h0 : byteN ((frameB r).set (j + 5) c) 0 = 82 := by rw [byteN_set_other _ _ (by omega), b0]
  have hs : saysN ((frameB r).set (j + 5) c) = r.length := by
    rw [saysN, byteN_set_other _ _ (by omega), byteN_set_other _ _ (by omega), b1, b2]; omega
  have hd : ((frameB r).set (j + 5) c).drop 5 = r.set j c := rfl
  have ht : (((frameB r).set (j + 5) c).drop 5).take (saysN ((frameB r).set (j + 5) c)) = r.set j c := by
    rw [hd, hs]; exact List.take_of_length_le (by rw [List.length_set]; omega)
  have hsn := sumN_lt r
  refine firstB_sum (by omega) h0 (by omega) (by omega) ?_
  rw [ht, byteN_set_other _ _ (by omega), byteN_set_other _ _ (by omega), b3, b4]
  have := sumN_changed hx h
  omega

theorem cut_zero_iff {l : List UInt8} (h : cutN l = 0) : cutB l = [] := by
  have h1 := lensN_ge (cutB l)
  have h2 : lensN (cutB l) = 0 := h
  exact List.eq_nil_of_length_eq_zero (by omega)

/-- A byte stored into a row that is owned. -/
theorem owns_store {w : World} {B g n cap k : Nat} {F : List UInt8} (h : w.ownsRow B 5 1 (.slice (some ⟨g, 0, none⟩) n cap) n (byteCells F)) (hk : k < n) (c : UInt8) :
    (w.setCell ⟨g, k, none⟩ (.int .u8 c.toNat)).ownsRow B 5 1 (.slice (some ⟨g, 0, none⟩) n cap) n (byteCells (F.set k c)) := by
  have hF : F.length = n := by have := h.1; simp [byteCells] at this; omega
  rcases h.2 with ⟨h1, _⟩ | ⟨g', cap', cur, h1, h2, h3, h4, h5, h6, h7⟩
  · cases h1
  · injection h1 with h1 h8 h9
    injection h1 with h1
    injection h1 with h1
    subst h1
    subst h9
    refine ⟨by simp [byteCells, hF], Or.inr ⟨g, cap, cur.setIfInBounds k (.int .u8 c.toNat), rfl, h2, by simp [World.setCell, Array.getElem?_modify, h3], h4, h5, by simpa using h6, ?_⟩⟩
    have e1 : (cur.setIfInBounds k (Value.int .u8 c.toNat)).toList = cur.toList.set k (.int .u8 c.toNat) := by simp
    rw [e1, List.take_set, h7]
    simp [byteCells, List.map_set]

end Go.Proofs.Ytmecpgnmeefpjaa
