/- The document's own answers on frames: Sum, Put. -/
import Derived.Test.YtmecpgnmeefpjaaF8
namespace Go.Proofs.Ytmecpgnmeefpjaa
open Go.RowKit Go.Lib

theorem sumP_take (s : ByteArray) (k : Nat) (h : k < s.size) : sumP (s.data.toList.take (k + 1)) = sumStep (sumP (s.data.toList.take k)) s[k] := by
  rw [take_snoc s k h, sumP_snoc]

set_option maxHeartbeats 1000000 in
theorem rsum_calls (s : ByteArray) (w : World) (hs : s.size ≤ maxLen) :
    Calls Try.prog 13 #[.string s] w fun e w' => e = .returned (.int .i64 (sumN s.data.toList)) ∧ w = w' := by
  unfold maxLen at hs
  go_enter Try.func13, Try.ntmps13
  go_wp2
  go_loop [3, 4, 5] (fun a b i => ∃ k x y : Nat, k ≤ s.size ∧ i = .int .i64 k ∧ a = .int .i64 x ∧ b = .int .i64 y ∧ Hid (sumP (s.data.toList.take k) = (x, y)) ∧ x < 251 ∧ y < 241) (fun _ _ i => s.size - (intOf i).toNat)
  case atStart => exact ⟨0, 1, 1, Nat.zero_le _, rfl, rfl, rfl, rfl, by omega, by omega⟩
  case round =>
    obtain ⟨k, x, y, hk, rfl, rfl, rfl, Hp, hx, hy⟩ := hrel
    by_cases hlt : k < s.size
    · have hp := sumP_take s k hlt
      rw [Hp.out] at hp
      have hb : s[k].toNat < 256 := s[k].toNat_lt
      have hl := sumStep_lt (x, y) s[k]
      have e1 : (sumStep (x, y) s[k]).1 = (x + s[k].toNat + 1) % 251 := rfl
      have e2 : (sumStep (x, y) s[k]).2 = (y + (x + s[k].toNat + 1) % 251) % 241 := rfl
      rw [e1, e2] at hl
      have Hp1 : Hid (sumP (s.data.toList.take (k + 1)) = ((x + s[k].toNat + 1) % 251, (y + (x + s[k].toNat + 1) % 251) % 241)) := hp
      obtain ⟨hl1, hl2⟩ := hl
      clear hp e1 e2
      go_wp2
      go_round
      case rel => exact ⟨k + 1, _, _, by omega, by go_num, by go_num, by go_num, Hp1, hl1, hl2⟩
      case measure => simp [intOf]; omega
    · have hk' : k = s.size := by omega
      have hn : sumN s.data.toList = x + 256 * y := by
        have h1 := Hp.out
        rw [List.take_of_length_le (by rw [hk']; simp)] at h1
        unfold sumN
        rw [h1]
      have Hn := Lib.hid hn
      clear hn hk'
      go_wp2
      go_ret
      exact ⟨ret_num (by rw [Hn.out]; omega), rfl⟩

theorem owns_built (w : World) (cs : Array Value) (t : TypeId) (n : Nat) (hn : cs.size = n) (hm : n ≤ maxLen) : (w.alloc (.cells cs t)).ownsRow w.heap.size t 1 (.slice (some ⟨w.heap.size, 0, none⟩) n n) n cs.toList :=
  ⟨by simp [hn], .inr ⟨w.heap.size, n, cs, rfl, Nat.le_refl _, heap_alloc_new w _, Nat.le_refl _, hm, by simp [hn], by rw [Nat.mul_one, List.take_of_length_le (by simp [hn])]⟩⟩

set_option maxHeartbeats 1000000 in
theorem rput_calls (s : ByteArray) (w : World) (hs : s.size ≤ maxLen) :
    Calls Try.prog 15 #[.string s] w fun e w' => ∃ v, e = .returned v ∧ w'.ownsRow w.heap.size 5 1 v (putB s.data.toList).length (byteCells (putB s.data.toList)) ∧ Below w.heap.size w w' := by
  have hs' := hs
  unfold maxLen at hs
  have hsl : s.data.toList.length = s.size := by simp
  by_cases hbig : 4096 < s.size
  · have hp : putB s.data.toList = [] := if_pos (by omega)
    rw [hp]
    clear hp hsl
    go_enter Try.func15, Try.ntmps15
    go_wp2
    go_ret
    exact ⟨_, rfl, World.ownsRow_nil _ _ _ _, Below.refl _ _⟩
  · have hp : putB s.data.toList = frameB s.data.toList := if_neg (by omega)
    rw [hp]
    have hfl : (frameB s.data.toList).length = s.size + 5 := by rw [frameB_length, hsl]
    rw [hfl]
    have hsn := sumN_lt s.data.toList
    have hsum := rsum_calls s w hs'
    obtain ⟨sn, hsn2⟩ : ∃ sn, sumN s.data.toList = sn := ⟨_, rfl⟩
    rw [hsn2] at hsum hsn
    have Hsn := Lib.hid hsn2
    have Hsl := Lib.hid hsl
    have hstr : strCells s = byteCells s.data.toList := rfl
    have Hstr := Lib.hid hstr
    have hs2 : s.size ≤ 4096 := by omega
    have hbc : (#[Value.int .u8 82, .int .u8 ((s.size : Int) / 256), .int .u8 ((s.size : Int) % 256), .int .u8 ((sn : Int) / 256), .int .u8 ((sn : Int) % 256)] : Array Value).toList = byteCells ([82] ++ [UInt8.ofNat (s.size / 256), UInt8.ofNat (s.size % 256)] ++ [UInt8.ofNat (sn / 256), UInt8.ofNat (sn % 256)]) := by
      have h1 : s.size / 256 < 256 := by omega
      have h2 : sn / 256 < 256 := by omega
      simp [byteCells, Nat.mod_eq_of_lt h1, Nat.mod_eq_of_lt h2]
    have Hbc := Lib.hid hbc
    have hb1 := owns_built w #[Value.int .u8 82, .int .u8 ((s.size : Int) / 256), .int .u8 ((s.size : Int) % 256), .int .u8 ((sn : Int) / 256), .int .u8 ((sn : Int) % 256)] 5 5 rfl (by unfold maxLen; omega)
    have HB1 := Lib.hid hb1
    obtain ⟨i0, hi, hz0, hz1, hz2⟩ := info_parts infoB8
    clear hp hfl hsl hstr hbig hbc hsn2 hb1
    go_enter Try.func15, Try.ntmps15
    go_wp2_with fail
    refine hsum.mono ?_
    rintro e w1 ⟨rfl, rfl⟩
    clear hsum
    go_wp2_with (first
      | (at_builtin; refine wpList_append_own_string _ rfl (.tmp 23) (.tmp 24) 22 9 rfl w.heap.size 5 i0 Try.underlying22 Try.underlying9 hi hz0 hz1 hz2 _ _ _ rfl HB1.out s rfl (by unfold maxLen; omega) (by omega) (by simp) ?_; intro v6 w6 hown6 hgrow6 hnil6))
    go_wp2
    go_ret
    refine ⟨_, rfl, ?_, ((Below.refl _ w).alloc (Nat.le_refl _) _).grown hgrow6 (by simp) (fun k hk => (HB1.out.lt k hk).1)⟩
    rw [Hstr.out, Hbc.out] at hown6
    have e1 : frameB s.data.toList = [82] ++ [UInt8.ofNat (s.size / 256), UInt8.ofNat (s.size % 256)] ++ [UInt8.ofNat (sn / 256), UInt8.ofNat (sn % 256)] ++ s.data.toList := by
      unfold frameB; rw [Hsl.out, Hsn.out]
    rw [e1, show s.size + 5 = 5 + s.size by omega]
    simpa [byteCells] using hown6

end Go.Proofs.Ytmecpgnmeefpjaa
