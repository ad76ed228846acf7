/- The statement LexBack: its walk. -/
import Derived.Test.YtejpakagbojaiaaDoorL9x
namespace Go.Proofs.YtejpakagbojaiaaDoor
open Go.RowKit Go.Lib Go.Op

theorem PlX.said_le {l : List UInt8} : ∀ {ts : List XTok} {a : Nat}, PlX l a ts → ∀ t ∈ ts, (saidX t).length ≤ l.length
  | [], _, _, t, h => by cases h
  | t :: r, a, h, x, hx => by
    obtain ⟨_, _, _, _, h5, _, h7⟩ := h
    rcases List.mem_cons.1 hx with rfl | hx
    · omega
    · exact PlX.said_le h7 x hx
theorem joinX_take {ts : List XTok} {k : Nat} {t : XTok} (ht : ts[k]? = some t) : joinX (ts.take (k + 1)) = if k = 0 then saidX t else joinX (ts.take k) ++ 32 :: saidX t := by
  have hk := (List.getElem?_eq_some_iff.1 ht).1
  rw [List.take_add_one, ht]
  show joinX (ts.take k ++ [t]) = _
  rw [joinX_snoc]
  by_cases h0 : k = 0
  · subst h0
    simp
  · rw [if_neg h0, if_neg]
    intro e
    have := congrArg List.length e
    rw [List.length_take, Nat.min_eq_left (by omega)] at this
    exact h0 this
theorem joinX_le {n : Nat} : ∀ {ts : List XTok}, (∀ t ∈ ts, (saidX t).length ≤ n) → (joinX ts).length ≤ ts.length * (n + 1)
  | [], _ => by simp [joinX]
  | t :: r, h => by
    have h1 := h t (by simp)
    have h2 := joinX_le (n := n) (ts := r) (fun x hx => h x (by simp [hx]))
    rw [joinX, List.length_append, List.length_cons, Nat.add_mul]
    split <;> simp <;> omega
theorem bare_at {us ts : List XTok} (h : us.map bare = ts.map bare) {k : Nat} {t : XTok} (ht : ts[k]? = some t) : ∃ u, us[k]? = some u ∧ u.k = t.k ∧ u.b = t.b := by
  have h1 := congrArg (·[k]?) h
  simp only [List.getElem?_map, ht, Option.map_some] at h1
  cases hu : us[k]? with
  | none => rw [hu] at h1; cases h1
  | some u =>
    rw [hu] at h1
    simp only [Option.map_some, Option.some.injEq, bare, Prod.mk.injEq] at h1
    exact ⟨u, rfl, h1.1, h1.2⟩

set_option maxHeartbeats 1000000 in
set_option maxRecDepth 100000 in
theorem back_walk (w : World) (hv : XVars w) (s : ByteArray) (hs : s.size ≤ maxLen) : Calls Tryd.prog 3 #[.string s] w fun e w' => e = .returned (.bool true) ∧ Below w.heap.size w w' := by
  have HH := Lib.hid (xhead_calls hv)
  have HV := Lib.hid hv
  unfold maxLen at hs
  clear hv
  go_enter Tryd.func3, Tryd.ntmps3
  go_wp2_with fail
  with_reducible refine HH.out.mono ?_
  rintro e w1 ⟨rfl, hb1⟩
  have HB1 := Lib.hid hb1
  clear HH hb1
  by_cases h3 : 3000 < s.size
  · go_wp2
    go_ret
    exact ⟨rfl, HB1.out⟩
  obtain ⟨⟨ts, x, p⟩, hr⟩ : ∃ r, readX s.data.toList = r := ⟨_, rfl⟩
  have HR : Hid (Calls Tryd.prog 7 #[.string s] w1 (ReadQ w1 (ts, x, p))) := by
    show Calls _ _ _ _ _
    rw [← hr]
    exact read_calls (HV.out.below HB1.out) s _ rfl (by omega)
  have Hr := Lib.hid hr
  clear hr
  go_wp2_with fail
  with_reducible refine HR.out.mono ?_
  rintro e w2 ⟨v, rfl, ho, hb2⟩
  have HB2 := Lib.hid (HB1.out.trans (hb2.mono HB1.out.size))
  obtain ⟨a, c, rfl, hc⟩ := ho.cells
  have HC := Lib.hid hc
  clear HR ho hb2 hc
  dsimp only
  by_cases hx : x = 0
  rotate_left
  · have hts : ts = [] := by
      have h := (readX_form s.data.toList).2
      rw [Hr.out] at h
      exact h hx
    subst hts
    have hd : ((x : Int) != 0) = true := by rw [bne_iff_ne]; omega
    clear HC
    go_wp2
    go_ret
    exact ⟨rfl, HB2.out⟩
  subst hx
  obtain ⟨h512, hpl, h128, hgood⟩ := readX_ok Hr.out
  have hsl : ∀ t ∈ ts, (saidX t).length ≤ 512 := fun t ht => Nat.le_trans (hpl.said_le t ht) h512
  have hjl : ∀ k, (joinX (ts.take k)).length ≤ 70000 := fun k => by
    have h := joinX_le (n := 512) (ts := ts.take k) (fun t ht => hsl t (List.mem_of_mem_take ht))
    rw [List.length_take] at h
    have : min k ts.length ≤ 128 := by omega
    have := Nat.mul_le_mul_right 513 this
    omega
  have hjoin : ∀ f, (joinX ts).length < f → ∃ us, lexX f (joinX ts) 0 0 = (us, 0, 0) ∧ us.map bare = ts.map bare := fun f hf => lexX_join ts f 0 0 hf (by omega) hgood
  have HSL := Lib.hid hsl
  have HJL := Lib.hid hjl
  have HJ := Lib.hid hjoin
  obtain ⟨n, hn⟩ : ∃ n, ts.length = n := ⟨_, rfl⟩
  have Hn := Lib.hid hn
  rw [hn] at h128 ⊢
  clear hpl hgood hsl hjl hjoin hn h512 Hr
  go_wp2_with fail
  go_loopw [7, 8] (fun S i wr => ∃ (k : Nat) (B : ByteArray), i = .int .i64 k ∧ S = .string B ∧ k ≤ n ∧ Hid (B = strB (joinX (ts.take k))) ∧ Hid (Below w2.heap.size w2 wr)) (fun _ i _ => n - (RowKit.intOf i).toNat)
  case atStart => exact ⟨0, _, rfl, rfl, Nat.zero_le _, rfl, Below.refl _ _⟩
  case round =>
    obtain ⟨k, B, rfl, rfl, hk, HBk, HWk⟩ := hrel
    by_cases hlt : k < n
    · obtain ⟨t, ht⟩ : ∃ t, ts[k]? = some t := ⟨_, List.getElem?_eq_getElem (by rw [Hn.out]; exact hlt)⟩
      have hjt := joinX_take ht
      have hsz := HSL.out t (List.mem_of_getElem? ht)
      have hB : B.size ≤ 70000 := by rw [HBk.out, strB_size]; exact HJL.out k
      obtain ⟨A, rfl, c0, c1, c2⟩ := (HC.out.below HWk.out).at ht
      obtain ⟨tk, tb, tat⟩ := t
      dsimp only at c0 c1 c2
      have htb : tb.length ≤ 1000 := by
        have : tb.length ≤ (saidX ⟨tk, tb, tat⟩).length := by
          unfold saidX
          dsimp only
          split
          · simp; omega
          · exact Nat.le_refl _
        omega
      obtain ⟨y, hy⟩ : ∃ y, strB (saidX ⟨tk, tb, tat⟩) = y := ⟨_, rfl⟩
      have hyz : y.size ≤ 512 := by rw [← hy, strB_size]; exact hsz
      have HS : Hid (∀ W, Calls Tryd.prog 8 #[.agg #[.int .i64 tk, .string (strB tb), .int .i64 tat]] W fun e w' => e = .returned (.string y) ∧ Below W.heap.size W w') := fun W => by rw [← hy]; exact said_calls tk tb tat W htb
      have HB4 : Hid (∀ W, Below wr.heap.size wr W → Below w2.heap.size w2 W) := fun W hW => HWk.out.trans (hW.mono HWk.out.size)
      have hk0 : (0 : Int) ≤ (k : Int) := by omega
      have hk1 : (k : Int) < (n : Int) := by omega
      by_cases h0 : k = 0
      · subst h0
        have HN : Hid (B ++ y = strB (joinX (ts.take (0 + 1)))) := by
          show _ = _
          rw [hjt, if_pos rfl, HBk.out, ← hy]
          show strB [] ++ _ = _
          rw [catB]
          rfl
        rw [Nat.zero_mul, Addr.add_zero'] at c0 c1 c2
        clear hjt hy ht htb hsz
        go_wp2_with (go_at_call 8; (with_reducible refine (HS.out _).mono ?_); rintro e w4 ⟨rfl, hb4⟩; have HB5 := Lib.hid (HB4.out _ hb4); clear hb4)
        go_roundw
        case rel => exact ⟨0 + 1, B ++ y, by go_num, rfl, by omega, HN, HB5⟩
        case measure => simp [RowKit.intOf]; omega
      · have HN : Hid (B ++ ⟨#[32]⟩ ++ y = strB (joinX (ts.take (k + 1)))) := by
          show _ = _
          rw [hjt, if_neg h0, HBk.out, ← hy]
          show strB _ ++ strB [32] ++ strB _ = _
          rw [catB, catB, List.append_assoc]
          rfl
        have hd : decide ((0 : Int) < (k : Int)) = true := by simp; omega
        have hd2 : 0 < k := by omega
        have hB1 : (B ++ ⟨#[32]⟩).size ≤ 70001 := by rw [ByteArray.size_append]; show B.size + 1 ≤ _; omega
        have hB2 : (⟨#[32]⟩ : ByteArray).size = 1 := rfl
        clear hjt hy ht htb hsz
        go_wp2_with (go_at_call 8; (with_reducible refine (HS.out _).mono ?_); rintro e w4 ⟨rfl, hb4⟩; have HB5 := Lib.hid (HB4.out _ hb4); clear hb4)
        go_roundw
        case rel => exact ⟨k + 1, B ++ ⟨#[32]⟩ ++ y, by go_num, rfl, by omega, HN, HB5⟩
        case measure => simp [RowKit.intOf]; omega
    · obtain rfl : k = n := by omega
      have htk : ts.take k = ts := List.take_of_length_le (by rw [Hn.out]; exact Nat.le_refl _)
      have hBl : B.data.toList = joinX ts := by rw [HBk.out, strB_list, htk]
      have hB : B.size ≤ 70000 := by rw [HBk.out, strB_size]; exact HJL.out k
      have HBl := Lib.hid hBl
      have hbz : (joinX ts).length = B.size := by rw [← hBl]; exact bsize B
      obtain ⟨⟨us, x', p'⟩, hr'⟩ : ∃ r, readX (joinX ts) = r := ⟨_, rfl⟩
      have HR2 : Hid (Calls Tryd.prog 7 #[.string B] wr (ReadQ wr (us, x', p'))) := by
        show Calls _ _ _ _ _
        rw [← hr']
        exact read_calls (HV.out.below (HB2.out.trans (HWk.out.mono HB2.out.size))) B _ HBl.out (by omega)
      by_cases hbig : 512 < B.size
      · have he : x' = 2 := by
          have h := hr'
          unfold readX at h
          rw [if_pos (by omega)] at h
          injection h with _ h
          injection h with h _
          exact h.symm
        subst he
        have HBw := Lib.hid (HB2.out.trans (HWk.out.mono HB2.out.size))
        clear hr' htk hBl hbz
        go_wp2_with fail
        with_reducible refine HR2.out.mono ?_
        rintro e w5 ⟨v5, rfl, ho, hb5⟩
        obtain ⟨a5, c5, rfl⟩ := ho.slice
        have HB5 := Lib.hid (HBw.out.trans (hb5.mono HBw.out.size))
        clear HR2 ho hb5
        dsimp only
        go_wp2
        go_ret
        exact ⟨rfl, HB5.out⟩
      · obtain ⟨us', h1, h2⟩ := HJ.out (B.size + 1) (by omega)
        have he : us = us' ∧ x' = 0 := by
          have h := hr'
          unfold readX at h
          rw [if_neg (by omega), hbz, h1] at h
          injection h with ha hb
          injection hb with hb _
          exact ⟨ha.symm, hb.symm⟩
        obtain ⟨rfl, rfl⟩ := he
        have hul : us.length = k := by
          have := congrArg List.length h2
          simp only [List.length_map] at this
          rw [this]; exact Hn.out
        have HU := Lib.hid h2
        have Hul := Lib.hid hul
        have HBw := Lib.hid (HB2.out.trans (HWk.out.mono HB2.out.size))
        clear hr' htk hBl hbz h1 h2 hul
        go_wp2_with fail
        with_reducible refine HR2.out.mono ?_
        rintro e w5 ⟨v5, rfl, ho, hb5⟩
        obtain ⟨a5, c5, rfl, hc5⟩ := ho.cells
        have HC5 := Lib.hid hc5
        have HC2 := Lib.hid (HC.out.below (HWk.out.trans (hb5.mono HWk.out.size)))
        have HB5 := Lib.hid (HBw.out.trans (hb5.mono HBw.out.size))
        clear HR2 ho hb5 hc5
        dsimp only
        have hul := Hul.out
        rw [hul]
        have hkk : ((k : Int) != (k : Int)) = false := by simp
        clear hul
        go_wp2_with fail
        go_loopw [12] (fun i wq => ∃ m : Nat, i = .int .i64 m ∧ m ≤ k ∧ Hid (Below w5.heap.size w5 wq)) (fun i _ => k - (RowKit.intOf i).toNat)
        case atStart => exact ⟨0, rfl, Nat.zero_le _, Below.refl _ _⟩
        case round =>
          obtain ⟨m, rfl, hm, HBq⟩ := hrel
          by_cases hmt : m < k
          · obtain ⟨t, ht⟩ : ∃ t, ts[m]? = some t := ⟨_, List.getElem?_eq_getElem (by rw [Hn.out]; exact hmt)⟩
            obtain ⟨u, hu, e1, e2⟩ := bare_at HU.out ht
            obtain ⟨A, rfl, c0, c1, c2⟩ := (HC2.out.below HBq.out).at ht
            obtain ⟨A5, rfl, d0, d1, d2⟩ := (HC5.out.below HBq.out).at hu
            rw [e1] at d0
            rw [e2] at d1
            have hm0 : (0 : Int) ≤ (m : Int) := by omega
            have hm1 : (m : Int) < (k : Int) := by omega
            have t1 : ((t.k : Int) != (t.k : Int)) = false := by simp
            have t2 : ((strB t.b).toList != (strB t.b).toList) = false := by simp
            clear e1 e2 ht hu
            go_upto_region 22 with fail
            go_quiet (fail)
            go_wp2
            go_roundw
            case rel => exact ⟨m + 1, by go_num, by omega, HBq.out.trans ⟨rfl, rfl, rfl, Nat.le_refl _, fun _ _ => rfl⟩⟩
            case measure => simp [RowKit.intOf]; omega
          · go_wp2
            go_ret
            exact ⟨rfl, HB5.out.trans (HBq.out.mono HB5.out.size)⟩

end Go.Proofs.YtejpakagbojaiaaDoor
