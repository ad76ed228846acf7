/- Plain words on a device, without a program: a right name, and small facts on lists of bytes. -/
import Derived.Lib.UnsafeStr
import Derived.Maps.OwnSet
import Derived.Maps.Range
namespace Go.Proofs.Ytefcbgnckgapgaa
open Go.RowKit Go.Lib

/-- One of the bytes that a name may have. -/
def chOk (c : UInt8) : Bool := decide (97 ≤ c.toNat ∧ c.toNat ≤ 122 ∨ 48 ≤ c.toNat ∧ c.toNat ≤ 57 ∨ c.toNat = 45)

/-- A right name. -/
def nameOk (l : List UInt8) : Bool := decide (1 ≤ l.length) && decide (l.length ≤ 20) && l.all chOk

theorem chOk_iff (c : UInt8) : chOk c = true ↔ 97 ≤ c.toNat ∧ c.toNat ≤ 122 ∨ 48 ≤ c.toNat ∧ c.toNat ≤ 57 ∨ c.toNat = 45 := by simp [chOk]

theorem nameOk_short {l : List UInt8} (h : l.length < 1) : nameOk l = false := by simp [nameOk]; omega
theorem nameOk_long {l : List UInt8} (h : 20 < l.length) : nameOk l = false := by simp [nameOk]; omega
theorem nameOk_all {l : List UInt8} (h1 : 1 ≤ l.length) (h2 : l.length ≤ 20) (h : ∀ k, k < l.length → chOk (l.getD k 0) = true) : nameOk l = true := by
  simp only [nameOk, h1, h2, decide_true, Bool.true_and, List.all_eq_true]
  intro c hc
  obtain ⟨k, hk, rfl⟩ := List.mem_iff_getElem.1 hc
  have := h k hk
  rwa [List.getD_eq_getElem?_getD, List.getElem?_eq_getElem hk] at this
theorem nameOk_bad {l : List UInt8} {k : Nat} (hk : k < l.length) (h : chOk (l.getD k 0) = false) : nameOk l = false := by
  have hm : l.getD k 0 ∈ l := by
    rw [List.getD_eq_getElem?_getD, List.getElem?_eq_getElem hk]
    exact List.getElem_mem hk
  simp only [nameOk]
  have : l.all chOk = false := by
    rw [List.all_eq_false]
    exact ⟨_, hm, by rw [h]; decide⟩
  rw [this]
  simp

theorem getD_bytes (s : ByteArray) (k : Nat) (h : k < s.size) : s.data.toList.getD k 0 = s[k] := by
  rw [List.getD_eq_getElem?_getD, List.getElem?_eq_getElem (by simpa using h)]
  rfl

theorem byteCells_take (l : List UInt8) (k : Nat) : (Lib.byteCells l).take k = Lib.byteCells (l.take k) := by simp [Lib.byteCells, List.map_take]

theorem nameOk_len {l : List UInt8} (h : nameOk l = true) : 1 ≤ l.length ∧ l.length ≤ 20 := by
  simp only [nameOk, Bool.and_eq_true, decide_eq_true_eq] at h
  exact h.1

end Go.Proofs.Ytefcbgnckgapgaa
