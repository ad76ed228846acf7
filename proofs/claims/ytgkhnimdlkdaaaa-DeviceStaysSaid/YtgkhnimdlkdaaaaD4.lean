/- Looking a file up in a device: find, holds, Read; and making one: file. -/
import Derived.Test.YtgkhnimdlkdaaaaD3
namespace Go.Proofs.Ytgkhnimdlkdaaaa
open Go.RowKit Go.Lib Go.Maps

theorem lawS : Keyed Try.prog 9 := string_keyed Try.underlying9
theorem zeroF (w : World) : (zeroValue 61).run Try.prog w = .ok (.pointer none) w := by kernel_rfl
theorem zeroB (w : World) : (zeroValue 31).run Try.prog w = .ok (.slice none 0 0) w := by kernel_rfl

section
variable {S : Prop} {w w' : World} {own own' : Owner} {db fb rb : Nat} {D E : DataW Unit} {n : Nat} {m : DevM}

theorem Dev.look_none (h : Dev S w own db fb rb D E n m) {s : ByteArray} (hs : s.size ≤ maxLen) (hf : m.files s.data.toList = none) :
    (Instr.lookup 62 (.map (some fb)) (.string s) false).run Try.prog w = .ok (.pointer none) w := by
  obtain ⟨c, hc⟩ := h.fmap
  obtain ⟨v, ps, hr, hv⟩ := hc.lookup lawS Try.underlying62 (zeroF w) (zd := .nil) (zp := []) rfl (WideMaps.keyOf_string_mk Try.underlying9 hs)
  have hd := h.dom s.data.toList
  rw [hf] at hd
  rw [atKey_of_not_has (by simpa using hd)] at hv
  rcases ptrR_inv hv with ⟨rfl, _⟩ | ⟨b, rfl, hb⟩
  · exact hr
  · simp at hb

theorem Dev.look_some (h : Dev S w own db fb rb D E n m) {s : ByteArray} (hs : s.size ≤ maxLen) {f : FileM} (hf : m.files s.data.toList = some f) :
    ∃ (p : Nat) (dv : Value), (Instr.lookup 62 (.map (some fb)) (.string s) false).run Try.prog w = .ok (.pointer (some ⟨p, 0, none⟩)) w ∧ (∀ z, D.atKey (.string s.data.toList) z = .lit (.int .u64 p)) ∧ FileAt w p dv f ∧ own p = some (3, s.data.toList) ∧ ∀ g, dv.ownBlock = some g → own g = some (4, s.data.toList) := by
  obtain ⟨c, hc⟩ := h.fmap
  obtain ⟨p, dv, h1, h2, h3, h4⟩ := h.fil _ _ hf
  obtain ⟨v, ps, hr, hv⟩ := hc.lookup lawS Try.underlying62 (zeroF w) (zd := .nil) (zp := []) rfl (WideMaps.keyOf_string_mk Try.underlying9 hs)
  rw [h1] at hv
  rcases ptrR_inv hv with ⟨rfl, hb⟩ | ⟨b, rfl, hb⟩
  · simp at hb
  · simp at hb
    obtain rfl : p = b := by omega
    exact ⟨p, dv, hr, h1, h2, h3, h4⟩

set_option maxHeartbeats 400000 in
set_option maxRecDepth 100000 in
theorem find_bad (p : Addr) (s : ByteArray) (w : World) (hs : s.size ≤ maxLen) (hn : nameOk s.data.toList = false) :
    Calls Try.prog 49 #[.pointer (some p), .string s] w fun e w' => e = .returned (.tuple #[.pointer none, .int .i64 1]) ∧ w = w' := by
  have h0 := isName_calls s w hs
  rw [hn] at h0
  clear hn
  go_enter Try.func49, Try.ntmps49
  go_wp2_with fail
  refine h0.mono ?_
  rintro e w1 ⟨rfl, rfl⟩
  go_wp2_with fail
  go_ret2
  exact ⟨rfl, rfl⟩

set_option maxHeartbeats 400000 in
set_option maxRecDepth 100000 in
theorem Dev.find_none (h : Dev S w own db fb rb D E n m) {s : ByteArray} (hs : s.size ≤ maxLen) (hn : nameOk s.data.toList = true) (hf : m.files s.data.toList = none) :
    Calls Try.prog 49 #[.pointer (some ⟨db, 0, none⟩), .string s] w fun e w' => e = .returned (.tuple #[.pointer none, .int .i64 12]) ∧ w = w' := by
  have h0 := isName_calls s w hs
  rw [hn] at h0
  have hl := h.look_none hs hf
  have c1 := h.c1
  clear hn hf h
  go_enter Try.func49, Try.ntmps49
  go_wp2_with fail
  refine h0.mono ?_
  rintro e w1 ⟨rfl, rfl⟩
  go_wp2_with fail
  go_ret2
  exact ⟨rfl, rfl⟩

set_option maxHeartbeats 400000 in
set_option maxRecDepth 100000 in
theorem Dev.find_some (h : Dev S w own db fb rb D E n m) {s : ByteArray} (hs : s.size ≤ maxLen) (hn : nameOk s.data.toList = true) {p : Nat} (hl : (Instr.lookup 62 (.map (some fb)) (.string s) false).run Try.prog w = .ok (.pointer (some ⟨p, 0, none⟩)) w) :
    Calls Try.prog 49 #[.pointer (some ⟨db, 0, none⟩), .string s] w fun e w' => e = .returned (.tuple #[.pointer (some ⟨p, 0, none⟩), .int .i64 0]) ∧ w = w' := by
  have h0 := isName_calls s w hs
  rw [hn] at h0
  have c1 := h.c1
  clear hn h
  go_enter Try.func49, Try.ntmps49
  go_wp2_with fail
  refine h0.mono ?_
  rintro e w1 ⟨rfl, rfl⟩
  go_wp2_with fail
  go_ret2
  exact ⟨rfl, rfl⟩

/-- What holds asks. -/
def holdsB (sz : Nat) (fo : Option FileM) (k : Int) : Bool :=
  match fo with
  | none => decide (sz < 64) && decide (k ≤ 262144)
  | some f => decide (k ≤ 262144 - f.data.length)

set_option maxHeartbeats 400000 in
set_option maxRecDepth 100000 in
theorem Dev.holds_none (h : Dev S w own db fb rb D E n m) {s : ByteArray} (hs : s.size ≤ maxLen) (hf : m.files s.data.toList = none) (k : Int) :
    Calls Try.prog 44 #[.pointer (some ⟨db, 0, none⟩), .string s, .int .i64 k] w fun e w' => e = .returned (.bool (decide ((Maps.size D : Int) < 64) && decide (k ≤ 262144))) ∧ w = w' := by
  have hl := h.look_none hs hf
  have c1 := h.c1
  obtain ⟨c, hc⟩ := h.fmap
  clear hf h
  have Hz : Hid (Maps.size D = Maps.size D) := rfl
  obtain ⟨sz, hsz⟩ : ∃ sz, sz = Maps.size D := ⟨_, rfl⟩
  rw [← hsz]
  have Hsz : Hid (sz = Maps.size D) := hsz
  clear hsz Hz
  by_cases h1 : sz < 64
  · by_cases h2 : k ≤ 262144
    · have e1 : (decide ((sz : Int) < 64) && decide (k ≤ 262144)) = true := by simp [h2]; omega
      rw [e1]; clear e1
      go_enter Try.func44, Try.ntmps44
      go_wp2_with (first
        | (at_len; refine wpList_len_own _ rfl _ 62 rfl 9 61 Try.underlying62 ptrR fb c D rfl hc ?_; rw [← Hsz.out])
        | go_in)
      go_ret
      exact ⟨rfl, rfl⟩
    · have e1 : (decide ((sz : Int) < 64) && decide (k ≤ 262144)) = false := by simp [h2]
      rw [e1]; clear e1
      go_enter Try.func44, Try.ntmps44
      go_wp2_with (first
        | (at_len; refine wpList_len_own _ rfl _ 62 rfl 9 61 Try.underlying62 ptrR fb c D rfl hc ?_; rw [← Hsz.out])
        | go_in)
      go_ret
      exact ⟨rfl, rfl⟩
  · have e1 : (decide ((sz : Int) < 64) && decide (k ≤ 262144)) = false := by
      have : ¬ (sz : Int) < 64 := by omega
      simp [this]
    rw [e1]; clear e1
    go_enter Try.func44, Try.ntmps44
    go_wp2_with (first
      | (at_len; refine wpList_len_own _ rfl _ 62 rfl 9 61 Try.underlying62 ptrR fb c D rfl hc ?_; rw [← Hsz.out])
      | go_in)
    go_ret
    exact ⟨rfl, rfl⟩

set_option maxHeartbeats 400000 in
set_option maxRecDepth 100000 in
theorem Dev.holds_some (h : Dev S w own db fb rb D E n m) {s : ByteArray} (hs : s.size ≤ maxLen) {f : FileM} (hf : m.files s.data.toList = some f) (k : Int) :
    Calls Try.prog 44 #[.pointer (some ⟨db, 0, none⟩), .string s, .int .i64 k] w fun e w' => e = .returned (.bool (decide (k ≤ 262144 - f.data.length))) ∧ w = w' := by
  obtain ⟨p, dv, hl, _, ⟨hfb, hrow, _, hlen⟩, _⟩ := h.look_some hs hf
  have c1 := h.c1
  have p0 : w.cell? ⟨p, 0, none⟩ = some dv := cell_of_blk hfb rfl
  have hdv : ∃ a c, dv = .slice a f.data.length c := by
    rcases hrow.2 with ⟨rfl, h0⟩ | ⟨g, cap, cur, rfl, _⟩
    · exact ⟨_, _, by rw [h0]⟩
    · exact ⟨_, _, rfl⟩
  obtain ⟨a, c, rfl⟩ := hdv
  clear hf h hfb hrow
  generalize f.data.length = l at *
  go_enter Try.func44, Try.ntmps44
  go_wp2
  go_ret
  exact ⟨rfl, rfl⟩

end
end Go.Proofs.Ytgkhnimdlkdaaaa
