/- The statement LexJoin: its walk. -/
import Derived.Test.YtejpakagbojaiaaDoorLBx
namespace Go.Proofs.YtejpakagbojaiaaDoor
open Go.RowKit Go.Lib Go.Op

theorem lexX_place : ∀ (f : Nat) (l : List UInt8) (a n : Nat), (lexX f l a n).2.2 ≤ a + l.length
  | 0, l, a, n => by rw [lexX]; exact Nat.zero_le _
  | f + 1, l, a, n => by
    have hm := manyL_le xblank l
    by_cases h1 : l.length ≤ manyL xblank l
    · rw [lexX_end h1]; exact Nat.zero_le _
    · by_cases h2 : (firstX (l.drop (manyL xblank l))).2 = 0
      · rw [lexX_none h1 h2]; dsimp only; omega
      · by_cases h3 : n = 128
        · rw [lexX_many h1 h2 h3]; dsimp only; omega
        · have hz := firstX_size h2
          rw [List.length_drop] at hz
          rw [lexX_more h1 h2 h3]
          have ih := lexX_place f ((l.drop (manyL xblank l)).drop (firstX (l.drop (manyL xblank l))).2) (a + manyL xblank l + (firstX (l.drop (manyL xblank l))).2) (n + 1)
          rw [List.length_drop, List.length_drop] at ih
          unfold consX
          split
          · exact Nat.zero_le _
          · omega
theorem PlX.at_le {l : List UInt8} : ∀ {ts : List XTok} {a : Nat}, PlX l a ts → ∀ t ∈ ts, t.at_ ≤ l.length
  | [], _, _, t, h => by cases h
  | t :: r, a, h, x, hx => by
    obtain ⟨_, h2, _, _, _, _, h7⟩ := h
    rcases List.mem_cons.1 hx with rfl | hx
    · exact h2
    · exact PlX.at_le h7 x hx
theorem readX_place (l : List UInt8) : (readX l).2.2 ≤ 512 := by
  unfold readX
  split
  · exact Nat.zero_le _
  · have := lexX_place (l.length + 1) l 0 0
    omega

set_option maxHeartbeats 1000000 in
set_option maxRecDepth 100000 in
theorem join_walk (w : World) (hv : XVars w) (s t : ByteArray) (hs : s.size ≤ 140737488351232) (ht : t.size ≤ 140737488351232) : Calls Tryd.prog 5 #[.string s, .string t] w fun e w' => e = .returned (.bool true) ∧ Below w.heap.size w w' := by
  have HH := Lib.hid (xhead_calls hv)
  have HV := Lib.hid hv
  clear hv
  go_enter Tryd.func5, Tryd.ntmps5
  go_wp2_with fail
  with_reducible refine HH.out.mono ?_
  rintro e w1 ⟨rfl, hb1⟩
  have HB1 := Lib.hid hb1
  clear HH hb1
  by_cases h5 : 500 < s.size + t.size
  · have hd : decide (500 < (s.size : Int) + (t.size : Int)) = true := by simp; omega
    go_wp2
    go_ret
    exact ⟨rfl, HB1.out⟩
  have hd : decide (500 < (s.size : Int) + (t.size : Int)) = false := by simp; omega
  obtain ⟨⟨x, ex, px⟩, hrx⟩ : ∃ r, readX s.data.toList = r := ⟨_, rfl⟩
  obtain ⟨⟨y, ey, py⟩, hry⟩ : ∃ r, readX t.data.toList = r := ⟨_, rfl⟩
  obtain ⟨⟨z, ez, pz⟩, hrz⟩ : ∃ r, readX (s.data.toList ++ 32 :: t.data.toList) = r := ⟨_, rfl⟩
  have hcat : (s ++ ⟨#[32]⟩ ++ t).data.toList = s.data.toList ++ 32 :: t.data.toList := by simp
  have HRx : Hid (Calls Tryd.prog 7 #[.string s] w1 (ReadQ w1 (x, ex, px))) := by
    show Calls _ _ _ _ _
    rw [← hrx]
    exact read_calls (HV.out.below HB1.out) s _ rfl (by omega)
  have HRy : Hid (∀ W, Below w.heap.size w W → Calls Tryd.prog 7 #[.string t] W (ReadQ W (y, ey, py))) := fun W hW => by
    rw [← hry]
    exact read_calls (HV.out.below hW) t _ rfl (by omega)
  have hc1 : (⟨#[32]⟩ : ByteArray).size = 1 := rfl
  have hs1 : (s ++ ⟨#[32]⟩).size ≤ 501 := by rw [ByteArray.size_append, hc1]; omega
  have hs2 : (s ++ ⟨#[32]⟩ ++ t).size ≤ 1001 := by rw [ByteArray.size_append]; omega
  have HRz : Hid (∀ W, Below w.heap.size w W → Calls Tryd.prog 7 #[.string (s ++ ⟨#[32]⟩ ++ t)] W (ReadQ W (z, ez, pz))) := fun W hW => by
    rw [← hrz]
    exact read_calls (HV.out.below hW) _ _ hcat (by omega)
  have hlen : s.data.toList.length + 1 + t.data.toList.length ≤ 512 := by rw [bsize, bsize]; omega
  have hjoin := fun (h0 : ex = 0) => readX_join hlen (x := x) (p := px) (by rw [hrx, h0])
  rw [hry, hrz, bsize] at hjoin
  dsimp only at hjoin
  have hpy : py ≤ 512 := by have h := readX_place t.data.toList; rw [hry] at h; exact h
  have hpz : pz ≤ 512 := by have h := readX_place (s.data.toList ++ 32 :: t.data.toList); rw [hrz] at h; exact h
  have HRY := Lib.hid hry
  have HJ := Lib.hid hjoin
  have HRX := Lib.hid hrx
  clear hrx hry hrz hcat hlen hjoin
  go_wp2_with fail
  with_reducible refine HRx.out.mono ?_
  rintro e w2 ⟨v2, rfl, hox, hb2⟩
  have HB2 := Lib.hid (HB1.out.trans (hb2.mono HB1.out.size))
  obtain ⟨ax, cx, rfl, hcx⟩ := hox.cells
  have HCx := Lib.hid hcx
  clear HRx hox hb2 hcx
  dsimp only
  go_wp2_with fail
  with_reducible refine (HRy.out _ HB2.out).mono ?_
  rintro e w3 ⟨v3, rfl, hoy, hb3⟩
  have HB3 := Lib.hid (HB2.out.trans (hb3.mono HB2.out.size))
  obtain ⟨ay, cy, rfl, hcy⟩ := hoy.cells
  have HCy := Lib.hid hcy
  have HCx := Lib.hid (HCx.out.below hb3)
  clear HRy hoy hb3 hcy
  dsimp only
  go_wp2_with fail
  with_reducible refine (HRz.out _ HB3.out).mono ?_
  rintro e w4 ⟨v4, rfl, hoz, hb4⟩
  have HB4 := Lib.hid (HB3.out.trans (hb4.mono HB3.out.size))
  obtain ⟨az, cz, rfl, hcz⟩ := hoz.cells
  have HCz := Lib.hid hcz
  have HCx := Lib.hid (HCx.out.below hb4)
  have HCy := Lib.hid (HCy.out.below hb4)
  clear HRz hoz hb4 hcz
  dsimp only
  by_cases he : ex = 0
  rotate_left
  · have hd : ((ex : Int) != 0) = true := by rw [bne_iff_ne]; omega
    go_wp2
    go_ret
    exact ⟨rfl, HB4.out⟩
  obtain ⟨j1, j2⟩ := HJ.out he
  subst he
  by_cases hf : ey = 0
  rotate_left
  · obtain ⟨k1, k2⟩ := j1 hf
    clear j1 j2 HJ
    have hd1 : ((ey : Int) != 0) = true := by rw [bne_iff_ne]; omega
    have hd2 : ((ez : Int) != 0) = true := by rw [bne_iff_ne]; omega
    by_cases hp : pz = s.size + 1 + py
    · have hd3 : ((pz : Int) == (s.size : Int) + 1 + (py : Int)) = true := by rw [beq_iff_eq]; omega
      clear k2 hp
      go_wp2
      go_ret
      exact ⟨rfl, HB4.out⟩
    · have hd3 : ((pz : Int) == (s.size : Int) + 1 + (py : Int)) = false := by rw [beq_eq_false_iff_ne]; omega
      have hez : ez = 2 := by rcases k2 with e | e; exact absurd e hp; exact e
      subst hez
      clear k2 hp
      go_wp2
      go_ret
      exact ⟨rfl, HB4.out⟩
  subst hf
  obtain ⟨k1, k2⟩ := j2 rfl
  have hx128 : x.length ≤ 128 := (readX_ok HRX.out).2.2.1
  have hy128 : y.length ≤ 128 := (readX_ok HRY.out).2.2.1
  obtain ⟨m, hm⟩ : ∃ m, x.length = m := ⟨_, rfl⟩
  obtain ⟨n, hn⟩ : ∃ n, y.length = n := ⟨_, rfl⟩
  have Hm := Lib.hid hm
  have Hn := Lib.hid hn
  rw [hm, hn] at k1 k2
  rw [hm] at hx128
  rw [hn] at hy128
  rw [hm, hn]
  clear hm hn j1 j2 HJ
  by_cases hbig : 128 < m + n
  · have hez := k1 hbig
    subst hez
    have hd1 : decide (128 < (m : Int) + (n : Int)) = true := by simp; omega
    clear k1 k2
    go_wp2
    go_ret
    exact ⟨rfl, HB4.out⟩
  · have hz := k2 (by omega)
    injection hz with hz1 hz2
    injection hz2 with hz2 hz3
    subst hz1 hz2 hz3
    have hzl : (x ++ y.map (shiftT (s.size + 1))).length = m + n := by rw [List.length_append, List.length_map, Hm.out, Hn.out]
    rw [hzl]
    have hd1 : decide (128 < (m : Int) + (n : Int)) = false := by simp; omega
    have hd2 : (((m + n : Nat) : Int) != (m : Int) + (n : Int)) = false := by rw [bne_eq_false_iff_eq]; omega
    have hd3 : ((m : Int) + (n : Int) != (m : Int) + (n : Int)) = false := by simp
    clear k1 k2 hzl
    go_wp2_with fail
    go_loopw [15] (fun i wq => ∃ k : Nat, i = .int .i64 k ∧ k ≤ m + n ∧ Hid (Below w4.heap.size w4 wq)) (fun i _ => m + n - (RowKit.intOf i).toNat)
    case atStart => exact ⟨0, rfl, Nat.zero_le _, Below.refl _ _⟩
    case round =>
      obtain ⟨k, rfl, hk, HBq⟩ := hrel
      by_cases hlt : k < m + n
      · by_cases hkm : k < m
        · obtain ⟨t1, ht1⟩ : ∃ t1, x[k]? = some t1 := ⟨_, List.getElem?_eq_getElem (by rw [Hm.out]; exact hkm)⟩
          have hz1 : (x ++ y.map (shiftT (s.size + 1)))[k]? = some t1 := by rw [List.getElem?_append_left (by rw [Hm.out]; exact hkm)]; exact ht1
          obtain ⟨A, rfl, c0, c1, c2⟩ := (HCz.out.below HBq.out).at hz1
          obtain ⟨A5, rfl, d0, d1, d2⟩ := (HCx.out.below HBq.out).at ht1
          have hm0 : (0 : Int) ≤ (k : Int) := by omega
          have hm1 : (k : Int) < (m : Int) := by omega
          have hd5 : decide ((m : Int) ≤ (k : Int)) = false := by simp; omega
          have hd6 : decide (m ≤ k) = false := by simp; omega
          clear ht1 hz1
          go_upto_region 18 with fail
          go_quiet (fail)
          go_wp2
          go_roundw
          case rel => exact ⟨k + 1, by go_num, by omega, HBq.out.trans ⟨rfl, rfl, rfl, Nat.le_refl _, fun _ _ => rfl⟩⟩
          case measure => simp [RowKit.intOf]; omega
        · obtain ⟨j, rfl⟩ : ∃ j, k = m + j := ⟨k - m, by omega⟩
          obtain ⟨t1, ht1⟩ : ∃ t1, y[j]? = some t1 := ⟨_, List.getElem?_eq_getElem (by rw [Hn.out]; omega)⟩
          have hz1 : (x ++ y.map (shiftT (s.size + 1)))[m + j]? = some (shiftT (s.size + 1) t1) := by
            rw [List.getElem?_append_right (by rw [Hm.out]; omega), Hm.out, show m + j - m = j by omega, List.getElem?_map, ht1]
            rfl
          obtain ⟨A, rfl, c0, c1, c2⟩ := (HCz.out.below HBq.out).at hz1
          obtain ⟨A5, rfl, d0, d1, d2⟩ := (HCy.out.below HBq.out).at ht1
          obtain ⟨tk, tb, tat⟩ := t1
          unfold shiftT at c0 c1 c2
          dsimp only at c0 c1 c2 d0 d1 d2
          have hta : Hid (tat ≤ 512) := by
            show tat ≤ 512
            have h := (readX_ok HRY.out)
            have hpl := h.2.1.at_le _ (List.mem_of_getElem? ht1)
            exact Nat.le_trans hpl h.1
          have hta := hta.out
          obtain ⟨q, hq⟩ : ∃ q, q = m + j := ⟨_, rfl⟩
          have hqi : (q : Int) = (m : Int) + (j : Int) := by omega
          rw [← hq] at c0 c1 c2 ⊢
          have hqm : (q : Int) - (m : Int) = (j : Int) := by omega
          have hqs : IntKind.i64.wrap ((q : Int) - (m : Int)) = (j : Int) := by rw [hqm]; exact IntWalk.i64_in _ (by omega)
          have hm0 : (0 : Int) ≤ (q : Int) := by omega
          have hm1 : ¬ (q : Int) < (m : Int) := by omega
          have hd5 : decide ((q : Int) < (m : Int)) = false := by simp; omega
          have hd6 : decide (q < m) = false := by simp; omega
          have hd7 : decide ((m : Int) ≤ (q : Int)) = true := by simp; omega
          have hd8 : decide (m ≤ q) = true := by simp; omega
          have hj0 : (0 : Int) ≤ (j : Int) := by omega
          have hj1 : (j : Int) < (n : Int) := by omega
          have hq1 : (q : Int) < ((m + n : Nat) : Int) := by omega
          have hq2 : q < m + n := by omega
          have e1 : ((strB tb).toList != (strB tb).toList) = false := by simp
          have e2 : ((tk : Int) != (tk : Int)) = false := by simp
          have hw1 : IntKind.i64.wrap ((tat : Int) + (s.size : Int)) = (tat : Int) + (s.size : Int) := IntWalk.i64_in _ (by omega)
          have hw2 : IntKind.i64.wrap ((tat : Int) + (s.size : Int) + 1) = (tat : Int) + (s.size : Int) + 1 := IntWalk.i64_in _ (by omega)
          have e3 : (((tat + (s.size + 1) : Nat) : Int) != (tat : Int) + (s.size : Int) + 1) = false := by rw [bne_eq_false_iff_eq]; omega
          have e4 : ((tat : Int) + ((s.size : Int) + 1) != (tat : Int) + (s.size : Int) + 1) = false := by rw [bne_eq_false_iff_eq]; omega
          clear ht1 hz1 hqi
          have Hq := Lib.hid hq
          clear hq
          go_upto_region 18 with fail
          go_quiet (fail)
          clear hqm hqs hw1 hw2
          go_wp2
          go_roundw
          case rel => exact ⟨q + 1, by go_num, by omega, HBq.out.trans ⟨rfl, rfl, rfl, Nat.le_refl _, fun _ _ => rfl⟩⟩
          case measure => simp [RowKit.intOf]; omega
      · go_wp2
        go_ret
        exact ⟨rfl, HB4.out.trans (HBq.out.mono HB4.out.size)⟩

end Go.Proofs.YtejpakagbojaiaaDoor
