/- The document's Number, up to any greatest one. -/
import Derived.Test.YtppgecbjdkfohaaEVe
import Derived.Test.YtppgecbjdkfohaaVK
namespace Go.Proofs.Ytppgecbjdkfohaa
open Go.RowKit Go.Lib Go.Op

set_option maxHeartbeats 4000000 in
set_option maxRecDepth 100000 in
theorem numberZ_calls (w : World) (v : Value) (bs : List UInt8) (h : BRow w v bs) (z : Int) (hz0 : 0 ≤ z) (hz1 : z ≤ 4611686018427387904) : Calls Try.prog 63 #[v, .int .i64 z] w (NumPost w (numZ z bs)) := by
  obtain ⟨a, c, rfl, hc, hcm⟩ := h.len
  obtain ⟨l, hl⟩ : ∃ l, bs.length = l := ⟨_, rfl⟩
  have hlm : l ≤ maxLen := by omega
  unfold maxLen at hlm
  have H := Lib.hid h
  have HL := Lib.hid hl
  have hrl : (bs.take 7).length = min 7 l := by rw [List.length_take, hl]
  have Hrl := Lib.hid hrl
  rw [hl] at hc ⊢
  have HD0 : Hid (DigA (bs.take 7) 0 0) := ⟨Nat.zero_le _, rfl, by decide⟩
  clear hl h hrl
  go_enter Try.func63, Try.ntmps63
  go_wp2
  go_loop [7, 8, 9] (fun n b i => ∃ k m p : Nat, i = .int .i64 k ∧ n = .int .i64 m ∧ b = .int .i64 p ∧ k ≤ 7 ∧ p ≤ 562949953421312 ∧ m < 562949953421312 ∧ Hid (p = 128 ^ k) ∧ Hid (DigA (bs.take 7) k m)) (fun _ _ i => 7 - (intOf i).toNat)
  case atStart => exact ⟨0, 0, 1, rfl, rfl, rfl, by omega, by omega, by omega, rfl, HD0⟩
  case round =>
    obtain ⟨k, m, p, rfl, rfl, rfl, hk7, hp, hm, Hp, HD⟩ := hrel
    have hkr : k ≤ min 7 l := by have h9 := HD.out.1; rw [Hrl.out] at h9; exact h9
    by_cases hlt : k < l ∧ k < 7
    · obtain ⟨hkl, hk⟩ := hlt
      have hx : bs[k]? = some (bs[k]'(by rw [HL.out]; exact hkl)) := List.getElem?_eq_getElem _
      have hx7 : (bs.take 7)[k]? = bs[k]? := List.getElem?_take_of_lt hk
      generalize bs[k]'(by rw [HL.out]; exact hkl) = x at hx
      rw [hx] at hx7
      obtain ⟨A, rfl, hcell⟩ := H.out.atc hx
      have Hx := Lib.hid hx7
      have hx8 := x.toNat_lt
      have HS := Lib.hid (numSum (x := x.toNat) hm hp)
      clear hx hx7 hkr
      by_cases h128 : x.toNat < 128
      · have hstop := HD.out.stop Hx.out h128
        rw [← Hp.out] at hstop
        have Hstop := Lib.hid hstop
        clear hstop
        by_cases hz : x.toNat = 0 ∧ 0 < k
        · have hn : numZ z bs = none := numZ_none (.inl (by rw [Hstop.out, if_pos hz]))
          have Hn := Lib.hid hn
          obtain ⟨hx0, hk0⟩ := hz
          clear hn
          go_wp2
          all_goals
            go_ret3
            exact NumPost.none Hn.out
        · have hs2 : dgo (bs.take 7) 0 0 = (m + x.toNat % 128 * p, k + 1) := by rw [Hstop.out, if_neg hz]
          have Hs2 := Lib.hid hs2
          clear hs2
          by_cases hbig : z < ((m + x.toNat % 128 * p : Nat) : Int)
          · have hn : numZ z bs = none := numZ_none (.inr (by rw [Hs2.out]; exact hbig))
            have Hn := Lib.hid hn
            have hd : z < wrap64 ((m : Int) + wrap64 ((x.toNat : Int) % 128 * (p : Int))) := by rw [HS.out]; exact hbig
            clear hn hbig hz
            go_wp2
            all_goals
              go_ret3
              exact NumPost.none Hn.out
          · have hn : numZ z bs = some (m + x.toNat % 128 * p, k + 1) := by rw [numZ_some (by rw [Hs2.out]; rw [not_or]; exact ⟨by simp, hbig⟩), Hs2.out]
            have Hn := Lib.hid hn
            have hd : ¬ (z < wrap64 ((m : Int) + wrap64 ((x.toNat : Int) % 128 * (p : Int)))) := by rw [HS.out]; exact hbig
            clear hn
            by_cases hx0 : x.toNat = 0
            · have hk0 : ¬ 0 < k := fun h => hz ⟨hx0, h⟩
              have hd0 : ¬ (z < (m : Int)) := by rw [hx0] at hbig; simpa using hbig
              clear hz hbig hd
              go_wp2
              go_ret3
              exact NumPost.some Hn.out (by rw [hx0]; simp) (by simp)
            · clear hz hbig
              go_wp2
              all_goals
                go_ret3
                exact NumPost.some Hn.out HS.out (by simp)
      · have hst := HD.out.step Hx.out h128
        rw [← Hp.out] at hst
        have Hst := Lib.hid hst
        have Hp2 : Hid (p * 128 = 128 ^ (k + 1)) := by show _ = _; rw [Nat.pow_succ, ← Hp.out]
        have hp2 : p * 128 ≤ 562949953421312 := by rw [Hp2.out]; exact pow128' _ (by omega)
        have hm2 : m + x.toNat % 128 * p < 562949953421312 := Nat.lt_of_lt_of_le hst.2.2 (pow128' _ (by omega))
        clear hst
        go_wp2
        go_round
        case rel => exact ⟨k + 1, m + x.toNat % 128 * p, p * 128, by go_num, by rw [HS.out], by go_num, by omega, hp2, hm2, Hp2, Hst⟩
        case measure => simp [intOf]; omega
    · have hfin : numZ z bs = none := numZ_none (.inl (by rw [HD.out.fin (by rw [Hrl.out]; omega)]))
      have Hfin := Lib.hid hfin
      clear hfin hkr
      by_cases hkl : k < l
      · have hk : ¬ k < 7 := fun h => hlt ⟨hkl, h⟩
        clear hlt
        go_wp2
        go_ret3
        exact NumPost.none Hfin.out
      · clear hlt
        go_wp2
        go_ret3
        exact NumPost.none Hfin.out

end Go.Proofs.Ytppgecbjdkfohaa
