/- The statement FrameTorn, its walk. -/
import Derived.Test.YtmecpgnmeefpjaaF8
namespace Go.Proofs.Ytmecpgnmeefpjaa
open Go.RowKit Go.Lib

theorem torn_whole {rs : List (List UInt8)} {K : Nat} (hK : K ≤ (allB rs).length) (h : (allB rs).length ≤ K) : cutB ((allB rs).take K) = okR rs := by
  rw [List.take_of_length_le h]
  exact cutB_all' rs

theorem allB_split {rs : List (List UInt8)} {k : Nat} {r : List UInt8} (h : rs[k]? = some r) : allB rs = allB (rs.take k) ++ (putB r ++ allB (rs.drop (k + 1))) := by
  have h1 : rs = rs.take k ++ (r :: rs.drop (k + 1)) := by
    obtain ⟨hk, e⟩ := List.getElem?_eq_some_iff.1 h
    rw [← e, List.getElem_cons_drop, List.take_append_drop]
  conv => lhs; rw [h1]
  rw [allB_append, allB_cons]

theorem torn_cut {rs : List (List UInt8)} {k K : Nat} {r : List UInt8} (h : rs[k]? = some r) (hr : r.length ≤ 4096) (h1 : (allB (rs.take k)).length ≤ K) (h2 : K < (allB (rs.take k)).length + (putB r).length) :
    cutB ((allB rs).take K) = okR (rs.take k) := by
  rw [allB_split h, List.take_append, List.take_of_length_le h1, putB_ok hr, List.take_append_of_le_length (by rw [putB_ok hr] at h2; omega), cutB_all, cutB_none (firstB_torn r _ (by rw [putB_ok hr, frameB_length] at h2; omega) hr), List.append_nil]

set_option maxHeartbeats 4000000 in
set_option maxRecDepth 100000 in
theorem torn_walk (w : World) (a : Option Addr) (c : Nat) (rs : List (List UInt8)) (at_ : Nat) (hat : at_ < 65536) (hx : TRow w a rs) (hl : rs.length ≤ maxLen) :
    Calls Try.prog 5 #[.slice a rs.length c, .int .u16 at_] w (FFine w) := by
  obtain ⟨i0, hi, hz0, hz1, hz2⟩ := info_parts infoS16
  have Hx := Lib.hid hx
  have Hml := Lib.hid (mem_maxLen hx)
  have hgr := fun (w1 : World) (hb : Below w.heap.size w w1) => great_calls w1 a c rs (hx.below hb) hl
  obtain ⟨l, hn⟩ : ∃ l, rs.length = l := ⟨_, rfl⟩
  rw [hn] at hgr ⊢
  have Hl := Lib.hid hn
  clear hn hx hl
  go_enter Try.func5, Try.ntmps5
  go_wp2_with fail
  refine (fhead_calls w).mono ?_
  rintro e w1 ⟨rfl, hb1⟩
  have HB1 := Lib.hid hb1
  have hg1 := hgr w1 hb1
  cases hg : greatB rs with
  | true =>
    rw [hg] at hg1
    clear hb1 hg hgr
    go_wp2_with fail
    refine hg1.mono ?_
    rintro e w2 ⟨rfl, rfl⟩
    go_wp2_with fail
    go_ret
    exact ⟨rfl, HB1.out⟩
  | false =>
    rw [hg] at hg1
    have Hsm := Lib.hid (small_of hg)
    have hl30 : l < 30000 := by have := Hsm.out; rw [Hl.out] at this; omega
    have ha := all_calls w1 a c rs (Hx.out.below hb1) (by have := Hsm.out; omega)
    rw [Hl.out] at ha
    have hallb : (allB rs).length ≤ 1000000 := by have := allB_le rs; have := Hsm.out; omega
    obtain ⟨na, hna⟩ : ∃ na, (allB rs).length = na := ⟨_, rfl⟩
    rw [hna] at hallb
    have Hna := Lib.hid hna
    obtain ⟨K, hK⟩ : ∃ K, at_ % (na + 1) = K := ⟨_, rfl⟩
    have hKn : K ≤ na := by have := Nat.mod_lt at_ (show 0 < na + 1 by omega); omega
    have hKi : ((at_ : Nat) : Int) % ((na : Int) + 1) = (K : Int) := by rw [← hK]; norm_cast
    have HKi := Lib.hid hKi
    clear hb1 hg hgr hna hK hKi
    go_wp2_with fail
    refine hg1.mono ?_
    rintro e w2 ⟨rfl, rfl⟩
    clear hg1
    go_wp2_with fail
    refine ha.mono ?_
    rintro e w3 ⟨v3, rfl, hown3, hb3⟩
    have hbr := BRow.of_owns hown3
    obtain ⟨a3, c3, rfl, _, _⟩ := hbr.len
    obtain ⟨vk, hvk, hbk⟩ := hbr.upto (m := K) (by rw [Hna.out]; exact hKn)
    rw [Hna.out] at hvk ⊢
    rw [← HKi.out] at hvk
    have hc := cut_calls w3 vk ((allB rs).take K) hbk (by have := List.length_take_le K (allB rs); omega)
    have HB3 := Lib.hid (HB1.out.trans (hb3.mono HB1.out.size))
    clear ha hown3 hb3 hbr hbk
    go_wp2_with fail
    refine hc.mono ?_
    rintro e w4 ⟨v4, rfl, hown4, hb4⟩
    have HO4 := Lib.hid hown4
    have HB4 := Lib.hid (HB3.out.trans (hb4.mono HB3.out.size))
    have HS := Lib.hid (HB3.out.trans (hb4.mono HB3.out.size)).size
    obtain ⟨cn, hcn0⟩ : ∃ cn, cutN ((allB rs).take K) = cn := ⟨_, rfl⟩
    rw [hcn0, HKi.out]
    have Hcn := Lib.hid hcn0
    clear hc hown4 hb4 hvk hcn0
    go_wp2_with fail
    go_loopw [10, 11, 12] (fun v en i wr => ∃ k n : Nat, k ≤ l ∧ n ≤ K ∧ i = .int .i64 k ∧ en = .int .i64 n ∧ Hid (n = (allB (rs.take k)).length) ∧ Hid (wr.ownsRow w4.heap.size 9 1 v (okR (rs.take k)).length (recCells (okR (rs.take k)))) ∧ Hid (Below w4.heap.size w4 wr) ∧ Hid (Below w.heap.size w wr)) (fun _ _ i _ => l - (intOf i).toNat)
    case atStart => exact ⟨0, 0, Nat.zero_le _, Nat.zero_le _, rfl, rfl, rfl, World.ownsRow_nil _ _ _ _, Below.refl _ _, HB4.out⟩
    case round =>
      obtain ⟨k, n, hk, hnK, rfl, rfl, Hn, Hown, Hb4, Hb⟩ := hrel
      have hgot : wr.ownsRow w3.heap.size 9 1 v4 (cutB ((allB rs).take K)).length (recCells (cutB ((allB rs).take K))) ∧ wr = wr := ⟨owns_below HO4.out Hb4.out, rfl⟩
      by_cases hlt : k < l
      · obtain ⟨r, hr⟩ : ∃ r, rs[k]? = some r := ⟨_, List.getElem?_eq_getElem (by rw [Hl.out]; exact hlt)⟩
        obtain ⟨ad, rfl, hcell, hss⟩ := (Hx.out.below Hb.out) k r hr
        have Hr := Lib.hid hr
        have hp := put_calls (strB r) wr (by rw [strB_size]; exact hss)
        rw [strB_list] at hp
        obtain ⟨n2, hn2⟩ : ∃ n2, (putB r).length = n2 := ⟨_, rfl⟩
        have hn3 := putB_length r
        rw [hn2] at hn3
        have hn2b : n2 ≤ 5000 := by rw [hn3]; split <;> omega
        have Hn2 := Lib.hid hn2
        have Hat := Lib.hid (allB_take hr)
        have hok1 := okR_take hr
        by_cases hok : r.length ≤ 4096
        · have hn4 : n2 = r.length + 5 := by rw [hn3, if_neg (by omega)]
          have t1 : ((n2 : Int) == 0) = false := by rw [beq_eq_false_iff_ne]; omega
          rw [if_pos hok] at hok1
          have Hok := Lib.hid hok1
          have Hok4 := Lib.hid hok
          by_cases htorn : K < n + n2
          · have hcut : cutB ((allB rs).take K) = okR (rs.take k) := torn_cut hr hok (by rw [← Hn.out]; exact hnK) (by rw [← Hn.out, hn2]; exact htorn)
            have hcn : cn = n := by rw [← Hcn.out, cutN, hcut, lensN_okR]; exact Hn.out.symm
            have t2 : decide ((K : Int) < (n : Int) + (n2 : Int)) = true := by simp; omega
            clear hr hn2 hn3 hn4 hok1 hok
            go_wp2_with fail
            refine hp.mono ?_
            rintro e w6 ⟨v6, rfl, hown6, hb6⟩
            obtain ⟨a6, c6, rfl, _, _⟩ := (BRow.of_owns hown6).len
            rw [Hn2.out]
            have Hown' := Lib.hid (owns_below Hown.out hb6)
            have Hb' := Lib.hid (Hb.out.trans (hb6.mono Hb.out.size))
            have hgot' : w6.ownsRow w3.heap.size 9 1 v4 (cutB ((allB rs).take K)).length (recCells (cutB ((allB rs).take K))) ∧ w6 = w6 := ⟨owns_below hgot.1 hb6, rfl⟩
            clear hp hown6 hb6 hgot hcell Hown Hb Hb4
            have Hown := Hown'
            have Hb := Hb'
            have hgot := hgot'
            clear hgot'
            have hfinl : (okR (rs.take k)).length ≤ 30000 := by have h1 := okR_le (rs.take k); have h2 := List.length_take_le k rs; omega
            have hown := Hown.out
            obtain ⟨aw, cw, rfl, htw, _⟩ := TRow.of_owns hown (fun r hr => Hml.out r (List.mem_of_mem_take (List.mem_filter.1 hr).1))
            rw [hcut] at hgot
            obtain ⟨hv4, hbv4⟩ := hgot
            obtain ⟨a4, c4, rfl, ht4, _⟩ := TRow.of_owns hv4 (fun r hr => Hml.out r (List.mem_of_mem_take (List.mem_filter.1 hr).1))
            have hsa := same_calls w6 a4 aw c4 cw (okR (rs.take k)) (okR (rs.take k)) ht4 htw (by unfold maxLen; omega) (by unfold maxLen; omega)
            have hsa' : Calls Try.prog 16 #[.slice a4 (okR (rs.take k)).length c4, .slice aw (okR (rs.take k)).length cw] w6 fun e w' => e = .returned (.bool true) ∧ ∃ n, w' = w6.drewN n := hsa.mono fun e w' ⟨h1, h2⟩ => ⟨by rw [h1, decide_eq_true rfl], h2⟩
            try rw [hcn]
            obtain ⟨no, hno⟩ : ∃ no, (okR (rs.take k)).length = no := ⟨_, rfl⟩
            rw [hno] at hsa' ⊢
            clear hfinl hown htw hv4 ht4 hsa hcut hcn hno
            go_wp2_with fail
            refine hsa'.mono ?_
            rintro e w5 ⟨rfl, n5, rfl⟩
            go_wp2_with fail
            go_ret
            exact ⟨rfl, fbelow_drewN Hb.out _⟩
          · have hnk : n + n2 ≤ K := by omega
            have t2 : decide ((K : Int) < (n : Int) + (n2 : Int)) = false := by simp; omega
            have Hn' : Hid (n + n2 = (allB (rs.take (k + 1))).length) := by show _ = _; rw [Hat.out, List.length_append, ← Hn.out, hn2]
            clear hr hn2 hn3 hn4 hok1 hok htorn hgot
            go_wp2_with fail
            refine hp.mono ?_
            rintro e w6 ⟨v6, rfl, hown6, hb6⟩
            obtain ⟨a6, c6, rfl, _, _⟩ := (BRow.of_owns hown6).len
            rw [Hn2.out]
            have hcell6 : w6.cell? (ad.add k) = some (.string (strB r)) := (hb6.cell (World.block_lt_of_cell? _ _ hcell)).trans hcell
            have HO6 := Lib.hid ((owns_below Hown.out hb6).alloc (.cells #[.string (strB r)] 9))
            have HB6 := Lib.hid ((Hb.out.trans (hb6.mono Hb.out.size)).alloc ((Hb.out.trans (hb6.mono Hb.out.size)).size) (.cells #[.string (strB r)] 9))
            have HB46 := Lib.hid ((Hb4.out.trans (hb6.mono Hb4.out.size)).alloc ((Hb4.out.trans (hb6.mono Hb4.out.size)).size) (.cells #[.string (strB r)] 9))
            have hcnt : (okR (rs.take k)).length + 1 ≤ 30000 := by
              have h1 := okR_le (rs.take k)
              have h2 := List.length_take_le k rs
              omega
            clear hp hown6 hb6 hcell
            go_wp2_with (first
              | (at_builtin; refine wpList_append_own _ rfl (.tmp 53) (.tmp 58) 24 rfl w4.heap.size 9 i0 (.string .empty) 1 16 Try.underlying24 hi hz0 hz1 hz2 rfl (by decide) _ _ _ rfl HO6.out ⟨w6.heap.size, 0, none⟩ 1 1 (recCells [r]) rfl rfl (vals_new w6 _ _ _ _ rfl) (recCells_one _) (by unfold maxLen; omega) (by omega) HB46.out.size ?_; intro v7 w7 hown7 hgrow7 hnil7))
            have HB7 := Lib.hid (HB6.out.grown hgrow7 HB6.out.size (fun q hq => Nat.le_trans HS.out (HO6.out.lt q hq).1))
            have HB47 := Lib.hid (HB46.out.grown hgrow7 HB46.out.size (fun q hq => (HO6.out.lt q hq).1))
            have hown8 : w7.ownsRow w4.heap.size 9 1 v7 (okR (rs.take (k + 1))).length (recCells (okR (rs.take (k + 1)))) := by
              rw [Hok.out, List.length_append]
              simpa [recCells] using hown7
            have HO7 := Lib.hid hown8
            clear hown7 hgrow7 hnil7 hown8
            go_roundw
            case rel => exact ⟨k + 1, n + n2, by omega, hnk, by go_num, by go_num, Hn', HO7, HB47, HB7⟩
            case measure => simp [intOf]; omega
        · have hn4 : n2 = 0 := by rw [hn3, if_pos (by omega)]
          have t1 : ((n2 : Int) == 0) = true := by rw [beq_iff_eq]; omega
          rw [if_neg hok] at hok1
          have Hn' : Hid (n = (allB (rs.take (k + 1))).length) := by show _ = _; rw [Hat.out, List.length_append, ← Hn.out, hn2]; omega
          have Hok := Lib.hid hok1
          clear hr hn2 hn3 hn4 hok1 hgot
          go_wp2_with fail
          refine hp.mono ?_
          rintro e w6 ⟨v6, rfl, hown6, hb6⟩
          obtain ⟨a6, c6, rfl, _, _⟩ := (BRow.of_owns hown6).len
          rw [Hn2.out]
          have hown5 := owns_below Hown.out hb6
          rw [← Hok.out] at hown5
          have HO6 := Lib.hid hown5
          have HB6 := Lib.hid (Hb.out.trans (hb6.mono Hb.out.size))
          have HB46 := Lib.hid (Hb4.out.trans (hb6.mono Hb4.out.size))
          clear hp hown6 hb6 hcell hown5
          go_wp2_with fail
          go_roundw
          case rel => exact ⟨k + 1, n, by omega, hnK, by go_num, rfl, Hn', HO6, HB46, HB6⟩
          case measure => simp [intOf]; omega
      · have hk' : k = l := by omega
        have hfin : rs.take k = rs := by rw [hk', ← Hl.out]; exact List.take_length
        have hcut : cutB ((allB rs).take K) = okR (rs.take k) := by rw [hfin]; exact torn_whole (by rw [Hna.out]; exact hKn) (by have := Hn.out; rw [hfin] at this; omega)
        have hcn : cn = n := by rw [← Hcn.out, cutN, hcut, lensN_okR]; exact Hn.out.symm
        clear hfin
        have hfinl : (okR (rs.take k)).length ≤ 30000 := by have h1 := okR_le (rs.take k); have h2 := List.length_take_le k rs; omega
        have hown := Hown.out
        obtain ⟨aw, cw, rfl, htw, _⟩ := TRow.of_owns hown (fun r hr => Hml.out r (List.mem_of_mem_take (List.mem_filter.1 hr).1))
        rw [hcut] at hgot
        obtain ⟨hv4, hbv4⟩ := hgot
        obtain ⟨a4, c4, rfl, ht4, _⟩ := TRow.of_owns hv4 (fun r hr => Hml.out r (List.mem_of_mem_take (List.mem_filter.1 hr).1))
        have hsa := same_calls wr a4 aw c4 cw (okR (rs.take k)) (okR (rs.take k)) ht4 htw (by unfold maxLen; omega) (by unfold maxLen; omega)
        have hsa' : Calls Try.prog 16 #[.slice a4 (okR (rs.take k)).length c4, .slice aw (okR (rs.take k)).length cw] wr fun e w' => e = .returned (.bool true) ∧ ∃ n, w' = wr.drewN n := hsa.mono fun e w' ⟨h1, h2⟩ => ⟨by rw [h1, decide_eq_true rfl], h2⟩
        try rw [hcn]
        obtain ⟨no, hno⟩ : ∃ no, (okR (rs.take k)).length = no := ⟨_, rfl⟩
        rw [hno] at hsa' ⊢
        clear hfinl hown htw hv4 ht4 hsa hcut hcn hno
        go_wp2_with fail
        refine hsa'.mono ?_
        rintro e w5 ⟨rfl, n5, rfl⟩
        go_wp2_with fail
        go_ret
        exact ⟨rfl, fbelow_drewN Hb.out _⟩

end Go.Proofs.Ytmecpgnmeefpjaa
