/- The statement LexPlaces: its walk. -/
import Derived.Test.YtejpakagbojaiaaDoorL8x
namespace Go.Proofs.YtejpakagbojaiaaDoor
open Go.RowKit Go.Lib Go.Op

theorem readX_ok {l : List UInt8} {ts : List XTok} {p : Nat} (h : readX l = (ts, 0, p)) : l.length ≤ 512 ∧ PlX l 0 ts ∧ ts.length ≤ 128 ∧ ∀ t ∈ ts, GoodT t := by
  unfold readX at h
  split at h
  · injection h with _ h; injection h with h _; cases h
  · rename_i hl
    have h1 := lexX_good _ _ _ _ _ _ h (by omega)
    refine ⟨by omega, ?_, by omega, h1.1⟩
    exact lexX_places l _ 0 0 ts p (Nat.zero_le _) (by rw [List.drop_zero]; exact h)

theorem PlX.step {l : List UInt8} {ts : List XTok} {j k : Nat} {t : XTok} (h : PlX l j (ts.drop k)) (ht : ts[k]? = some t) : j ≤ t.at_ ∧ t.at_ ≤ l.length ∧ (∀ i x, j ≤ i → i < t.at_ → l[i]? = some x → xblank x = true) ∧ (saidX t).length ≠ 0 ∧ t.at_ + (saidX t).length ≤ l.length ∧ (l.drop t.at_).take (saidX t).length = saidX t ∧ PlX l (t.at_ + (saidX t).length) (ts.drop (k + 1)) := by
  have hk := (List.getElem?_eq_some_iff.1 ht).1
  rw [List.drop_eq_getElem_cons hk] at h
  have e : ts[k] = t := by rw [List.getElem?_eq_getElem hk] at ht; injection ht
  rw [e] at h
  exact h
theorem xblank_iff {c : UInt8} (h : xblank c = true) : c.toNat = 32 ∨ c.toNat = 10 := by
  unfold xblank at h
  simpa using h

set_option maxHeartbeats 1000000 in
set_option maxRecDepth 100000 in
theorem places_walk (w : World) (hv : XVars w) (s : ByteArray) (hs : s.size ≤ maxLen) : Calls Tryd.prog 4 #[.string s] w fun e w' => e = .returned (.bool true) ∧ Below w.heap.size w w' := by
  have HH := Lib.hid (xhead_calls hv)
  have HV := Lib.hid hv
  unfold maxLen at hs
  clear hv
  go_enter Tryd.func4, Tryd.ntmps4
  go_wp2_with fail
  with_reducible refine HH.out.mono ?_
  rintro e w1 ⟨rfl, hb1⟩
  have HB1 := Lib.hid hb1
  clear HH hb1
  by_cases h3 : 3000 < s.size
  · go_wp2
    go_ret
    exact ⟨rfl, HB1.out⟩
  obtain ⟨⟨ts, x, p⟩, hr⟩ : ∃ r, readX s.data.toList = r := ⟨_, rfl⟩
  have HR : Hid (Calls Tryd.prog 7 #[.string s] w1 (ReadQ w1 (ts, x, p))) := by
    show Calls _ _ _ _ _
    rw [← hr]
    exact read_calls (HV.out.below HB1.out) s _ rfl (by omega)
  have Hr := Lib.hid hr
  clear hr
  go_wp2_with fail
  with_reducible refine HR.out.mono ?_
  rintro e w2 ⟨v, rfl, ho, hb2⟩
  have HB2 := Lib.hid (HB1.out.trans (hb2.mono HB1.out.size))
  obtain ⟨a, c, rfl, hc⟩ := ho.cells
  have HC := Lib.hid hc
  clear HR ho hb2 hc
  dsimp only
  by_cases hx : x = 0
  rotate_left
  · have hd : ((x : Int) != 0) = true := by rw [bne_iff_ne]; omega
    go_wp2
    go_ret
    exact ⟨rfl, HB2.out⟩
  subst hx
  obtain ⟨h512, hpl, h128, _⟩ := readX_ok Hr.out
  have hll : s.data.toList.length = s.size := bsize s
  rw [hll] at h512
  have Hll := Lib.hid hll
  obtain ⟨l, hl⟩ : ∃ l, s.data.toList = l := ⟨_, rfl⟩
  have Hl := Lib.hid hl
  rw [hl] at hpl
  have HP := Lib.hid hpl
  obtain ⟨n, hn⟩ : ∃ n, ts.length = n := ⟨_, rfl⟩
  have Hn := Lib.hid hn
  rw [hn] at h128 ⊢
  have hat : ∀ q, (hq : q < s.size) → l[q]? = some s[q] := fun q hq => by
    rw [← hl, List.getElem?_eq_getElem (by rw [hll]; exact hq)]
    rfl
  have HAT := Lib.hid hat
  clear hpl hll hl hn hat Hr
  go_wp2_with fail
  go_loopw [7, 8] (fun at_ i wr => ∃ k j : Nat, i = .int .i64 k ∧ at_ = .int .i64 j ∧ k ≤ n ∧ Hid (PlX l j (ts.drop k)) ∧ Hid (Below w2.heap.size w2 wr)) (fun _ i _ => n + 1 - (RowKit.intOf i).toNat)
  case atStart => exact ⟨0, 0, rfl, rfl, Nat.zero_le _, HP, Below.refl _ _⟩
  case round =>
    obtain ⟨k, j, rfl, rfl, hk, HPk, HBk⟩ := hrel
    by_cases hlt : k < n
    · obtain ⟨t, ht⟩ : ∃ t, ts[k]? = some t := ⟨_, List.getElem?_eq_getElem (by rw [Hn.out]; exact hlt)⟩
      obtain ⟨p1, p2, p3, p4, p5, p6, p7⟩ := HPk.out.step ht
      obtain ⟨A, rfl, c0, c1, c2⟩ := (HC.out.below HBk.out).at ht
      obtain ⟨tk, tb, tat⟩ := t
      dsimp only at p1 p2 p3 p5 p6 c0 c1 c2
      obtain ⟨z, hz⟩ : ∃ z, (saidX ⟨tk, tb, tat⟩).length = z := ⟨_, rfl⟩
      rw [hz] at p4 p5 p6 p7
      have hlen : l.length = s.size := by rw [← Hl.out]; exact Hll.out
      rw [hlen] at p2 p5
      obtain ⟨y, hy⟩ : ∃ y, strB (saidX ⟨tk, tb, tat⟩) = y := ⟨_, rfl⟩
      have hyz : y.size = z := by rw [← hy, strB_size, hz]
      have hyl : y.toList = saidX ⟨tk, tb, tat⟩ := by rw [← hy, ByteArray.toList_eq, strB_list]
      have htb : tb.length ≤ 1000 := by
        have : tb.length ≤ (saidX ⟨tk, tb, tat⟩).length := by
          unfold saidX
          dsimp only
          split
          · simp; omega
          · exact Nat.le_refl _
        omega
      have HS : Hid (∀ W, Calls Tryd.prog 8 #[.agg #[.int .i64 tk, .string (strB tb), .int .i64 tat]] W fun e w' => e = .returned (.string y) ∧ Below W.heap.size W w') := fun W => by rw [← hy]; exact said_calls tk tb tat W htb
      have hex : (s.extract tat (tat + z)).toList = y.toList := by
        rw [hyl, ByteArray.toList_eq, ext_list, Hl.out, List.drop_take, show tat + z - tat = z by omega]
        exact p6
      have t1 : ((s.extract tat (tat + z)).toList == y.toList) = true := by rw [hex]; exact beq_self_eq_true _
      have t2 : ((s.extract tat (tat + z)).toList != y.toList) = false := by rw [hex]; simp
      have HP3 := Lib.hid p3
      have HP7 := Lib.hid p7
      have Hyz := Lib.hid hyz
      have HT1 := Lib.hid t1
      have HT2 := Lib.hid t2
      clear p3 p6 p7 hyl hex hy hz ht hlen htb hyz t1 t2
      have hz0 : ((z : Int) == 0) = false := by rw [beq_eq_false_iff_ne]; omega
      have hkn : ((k : Int) == (n : Int)) = false := by rw [beq_eq_false_iff_ne]; omega
      have hk0 : (0 : Int) ≤ (k : Int) := by omega
      have hk1 : (k : Int) < (n : Int) := by omega
      go_wp2_with fail
      go_loop [10] (fun q => ∃ m : Nat, q = .int .i64 m ∧ j ≤ m ∧ m ≤ tat) (fun q => tat - (RowKit.intOf q).toNat)
      case atStart => exact ⟨j, rfl, Nat.le_refl _, p1⟩
      case round =>
        obtain ⟨m, rfl, hm1, hm2⟩ := hrel
        by_cases hmt : m < tat
        · have hb := xblank_iff (HP3.out m s[m] hm1 hmt (HAT.out m (by omega)))
          have hms : m < s.size := by omega
          rcases hb with hb | hb
          · have d1 : ((s[m].toNat : Int) != 32) = false := by rw [bne_eq_false_iff_eq]; omega
            clear hb
            go_wp2
            go_round
            case rel => exact ⟨m + 1, by go_num, by omega, by omega⟩
            case measure => simp [RowKit.intOf]; omega
          · have d1 : ((s[m].toNat : Int) != 32) = true := by rw [bne_iff_ne]; omega
            have d2 : ((s[m].toNat : Int) != 10) = false := by rw [bne_eq_false_iff_eq]; omega
            clear hb
            go_wp2
            go_round
            case rel => exact ⟨m + 1, by go_num, by omega, by omega⟩
            case measure => simp [RowKit.intOf]; omega
        · obtain rfl : m = tat := by omega
          have t1 := HT1.out
          have t2 := HT2.out
          have hzs := Hyz.out
          subst hzs
          have e1 : decide ((s.size : Int) - (m : Int) < (y.size : Int)) = false := by simp; omega
          have e2 : (0 : Int) ≤ (m : Int) + (y.size : Int) := by omega
          have e3 : (m : Int) + (y.size : Int) ≤ (s.size : Int) := by omega
          have e4 : ((m : Int) + (y.size : Int)).toNat = m + y.size := by omega
          have e5 : (m : Int) ≤ (m : Int) + (y.size : Int) := by omega
          have HB4 : Hid (∀ W, Below wr.heap.size wr W → Below w2.heap.size w2 W) := fun W hW => HBk.out.trans (hW.mono HBk.out.size)
          clear HT1 HT2 Hyz
          go_wp2_with (go_at_call 8; (with_reducible refine (HS.out _).mono ?_); rintro e w4 ⟨rfl, hb4⟩; have HB5 := Lib.hid (HB4.out _ hb4); clear hb4)
          go_roundw
          case rel => exact ⟨k + 1, m + y.size, by go_num, by go_num, by omega, HP7, HB5⟩
          case measure => simp [RowKit.intOf]; omega
    · obtain rfl : k = n := by omega
      have hnil : ts.drop k = [] := List.drop_of_length_le (by rw [Hn.out]; exact Nat.le_refl _)
      have hpl := HPk.out
      rw [hnil] at hpl
      obtain ⟨p1, p2⟩ := hpl
      have hlen : l.length = s.size := by rw [← Hl.out]; exact Hll.out
      rw [hlen] at p1
      have HP2 := Lib.hid p2
      have HB6 := Lib.hid (HB2.out.trans (HBk.out.mono HB2.out.size))
      have hkn : ((k : Int) == (k : Int)) = true := by simp
      clear hnil p2 hlen HPk
      go_wp2_with fail
      go_loop [10] (fun q => ∃ m : Nat, q = .int .i64 m ∧ j ≤ m ∧ m ≤ s.size) (fun q => s.size - (RowKit.intOf q).toNat)
      case atStart => exact ⟨j, rfl, Nat.le_refl _, p1⟩
      case round =>
        obtain ⟨m, rfl, hm1, hm2⟩ := hrel
        by_cases hmt : m < s.size
        · have hb := xblank_iff (HP2.out m s[m] hm1 (HAT.out m (by omega)))
          rcases hb with hb | hb
          · have d1 : ((s[m].toNat : Int) != 32) = false := by rw [bne_eq_false_iff_eq]; omega
            clear hb
            go_wp2
            go_round
            case rel => exact ⟨m + 1, by go_num, by omega, by omega⟩
            case measure => simp [RowKit.intOf]; omega
          · have d1 : ((s[m].toNat : Int) != 32) = true := by rw [bne_iff_ne]; omega
            have d2 : ((s[m].toNat : Int) != 10) = false := by rw [bne_eq_false_iff_eq]; omega
            clear hb
            go_wp2
            go_round
            case rel => exact ⟨m + 1, by go_num, by omega, by omega⟩
            case measure => simp [RowKit.intOf]; omega
        · have hd : decide ((k : Int) ≤ 128) = true := by simp; omega
          go_wp2
          go_ret
          exact ⟨rfl, HB6.out⟩

end Go.Proofs.YtejpakagbojaiaaDoor
