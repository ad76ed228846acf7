/- Names of a device: a new row with the names of all files, rising. -/
import Derived.Test.YtgkhnimdlkdaaaaDL
import Derived.Test.YtgkhnimdlkdaaaaDM0
namespace Go.Proofs.Ytgkhnimdlkdaaaa
open Go.RowKit Go.Lib Go.Maps Go.Sort

/-- What Names leaves. -/
def NamesPost (w : World) (D : DataW Unit) (e : Ending) (w' : World) : Prop := ∃ (v : Value) (ss : List (List UInt8)), e = .returned v ∧ ss.Perm (strKeys D) ∧
  w'.ownsRow w.heap.size 9 1 v ss.length ((ss.mergeSort (fun x y => decide (x ≤ y))).map encStr) ∧ Below w.heap.size w w'

section
variable {S : Prop} {w w' : World} {own own' : Owner} {db fb rb : Nat} {D E : DataW Unit} {n : Nat} {m : DevM}

set_option maxHeartbeats 1000000 in
set_option maxRecDepth 100000 in
theorem Dev.names (h : Dev S w own db fb rb D E n m) (hn : n ≤ 1000000000000) : Calls Try.prog 30 #[.pointer (some ⟨db, 0, none⟩)] w (NamesPost w D) := by
  have c1 := h.c1
  obtain ⟨c, hc⟩ := h.fmap
  have hsz : Maps.size D ≤ 1000000000000 := by have := h.cnt; omega
  have Hc := Lib.hid hc
  have Hsz := Lib.hid hsz
  clear h hc hsz
  go_enter Try.func30, Try.ntmps30
  go_wp2_with fail
  refine (callsIn_wide.1 (Try.maps_Keys_55 _ _)).mono ?_
  rintro e w1 ⟨rfl, rfl⟩
  go_wp2_with fail
  refine (callsIn_wide.1 (Try.slices_Sorted_keys_54_55 fb c D ptrR w Hc.out (by have := Hsz.out; unfold maxLen; omega) (by have := Hsz.out; omega))).mono ?_
  rintro e w2 ⟨v, ss, rfl, hS, hrow, hnil, hb⟩
  have HS := Lib.hid hS
  have Hrow := Lib.hid hrow
  have Hb := Lib.hid hb
  clear hS hrow hnil hb
  go_wp2_with fail
  go_ret
  exact ⟨v, ss, rfl, HS.out, ownsRow_base Hrow.out (by simp), ((Below.refl _ w).alloc (Nat.le_refl _) _).trans (Hb.out.mono (by simp))⟩

/-- How many names there are. -/
theorem Dev.names_len (h : Dev S w own db fb rb D E n m) {ss : List (List UInt8)} (hp : ss.Perm (strKeys D)) : ss.length = Maps.size D := by
  obtain ⟨c, hc⟩ := h.fmap
  obtain ⟨es, rfl, _, _⟩ := hc.entries lawS
  rw [hp.length_eq]
  simp [strKeys, Maps.size]

theorem row_slice {base : Nat} {t : TypeId} {sz : Nat} {v : Value} {k : Nat} {xs : List Value} (h : w.ownsRow base t sz v k xs) : ∃ a c, v = .slice a k c := by
  rcases h.2 with ⟨rfl, h0⟩ | ⟨g, cap, cur, rfl, _⟩
  · exact ⟨none, 0, by rw [h0]⟩
  · exact ⟨_, _, rfl⟩

end
end Go.Proofs.Ytgkhnimdlkdaaaa
