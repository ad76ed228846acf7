/- The statement FrameBack, its walk. -/
import Derived.Test.YtmecpgnmeefpjaaF7
namespace Go.Proofs.Ytmecpgnmeefpjaa
open Go.RowKit Go.Lib

theorem owns_below {w w' : World} {B : Nat} {e : TypeId} {s : Nat} {v : Value} {n : Nat} {xs : List Value} (h : w.ownsRow B e s v n xs) (hb : Below w.heap.size w w') : w'.ownsRow B e s v n xs :=
  h.kept (row := none) ⟨hb.os, hb.tape, hb.output, hb.size, fun q hq _ => hb.block q hq⟩ (by cases Value.ownBlock _ <;> simp)

/-- What the law's call leaves. -/
def FFine (w : World) (e : Ending) (w' : World) : Prop := e = .returned (.bool true) ∧ Below w.heap.size w w'

theorem okR_take {rs : List (List UInt8)} {k : Nat} {r : List UInt8} (h : rs[k]? = some r) : okR (rs.take (k + 1)) = if r.length ≤ 4096 then okR (rs.take k) ++ [r] else okR (rs.take k) := by
  rw [List.take_add_one, h]
  simp only [okR, List.filter_append, Option.toList_some]
  split
  · rename_i h1; simp [h1]
  · rename_i h1; simp [h1]
theorem okR_le (rs : List (List UInt8)) : (okR rs).length ≤ rs.length := List.length_filter_le _ _

theorem mem_maxLen {w : World} {a : Option Addr} {rs : List (List UInt8)} (h : TRow w a rs) : ∀ r ∈ rs, r.length ≤ maxLen := fun r hr => by
  obtain ⟨j, hj, rfl⟩ := List.mem_iff_getElem.1 hr
  obtain ⟨_, _, _, h3⟩ := h j _ (List.getElem?_eq_getElem hj)
  exact h3

set_option maxHeartbeats 4000000 in
set_option maxRecDepth 100000 in
theorem back_walk (w : World) (a : Option Addr) (c : Nat) (rs : List (List UInt8)) (hx : TRow w a rs) (hl : rs.length ≤ maxLen) :
    Calls Try.prog 4 #[.slice a rs.length c] w (FFine w) := by
  obtain ⟨i0, hi, hz0, hz1, hz2⟩ := info_parts infoS16
  have Hx := Lib.hid hx
  have Hml := Lib.hid (mem_maxLen hx)
  have hgr := fun (w1 : World) (hb : Below w.heap.size w w1) => great_calls w1 a c rs (hx.below hb) hl
  obtain ⟨l, hn⟩ : ∃ l, rs.length = l := ⟨_, rfl⟩
  rw [hn] at hgr ⊢
  have Hl := Lib.hid hn
  clear hn hx hl
  go_enter Try.func4, Try.ntmps4
  go_wp2_with fail
  refine (fhead_calls w).mono ?_
  rintro e w1 ⟨rfl, hb1⟩
  have HB1 := Lib.hid hb1
  have hg1 := hgr w1 hb1
  cases hg : greatB rs with
  | true =>
    rw [hg] at hg1
    clear hb1 hg hgr
    go_wp2_with fail
    refine hg1.mono ?_
    rintro e w2 ⟨rfl, rfl⟩
    go_wp2_with fail
    go_ret
    exact ⟨rfl, HB1.out⟩
  | false =>
    rw [hg] at hg1
    have Hsm := Lib.hid (small_of hg)
    have hl30 : l < 30000 := by have := Hsm.out; rw [Hl.out] at this; omega
    clear hb1 hg hgr
    go_wp2_with fail
    refine hg1.mono ?_
    rintro e w2 ⟨rfl, rfl⟩
    clear hg1
    go_wp2_with fail
    go_loopw [4, 5] (fun v i wr => ∃ k : Nat, k ≤ l ∧ i = .int .i64 k ∧ Hid (wr.ownsRow w.heap.size 9 1 v (okR (rs.take k)).length (recCells (okR (rs.take k)))) ∧ Hid (Below w.heap.size w wr)) (fun _ i _ => l - (intOf i).toNat)
    case atStart => exact ⟨0, Nat.zero_le _, rfl, World.ownsRow_nil _ _ _ _, HB1.out⟩
    case round =>
      obtain ⟨k, hk, rfl, Hown, Hb⟩ := hrel
      by_cases hlt : k < l
      · obtain ⟨r, hr⟩ : ∃ r, rs[k]? = some r := ⟨_, List.getElem?_eq_getElem (by rw [Hl.out]; exact hlt)⟩
        obtain ⟨ad, rfl, hcell, hss⟩ := (Hx.out.below Hb.out) k r hr
        have Hr := Lib.hid hr
        have hp := put_calls (strB r) wr (by rw [strB_size]; exact hss)
        rw [strB_list] at hp
        have hrl : r.length ≤ lenS rs := by
          have h1 := lenS_take hr
          have h2 := lenS_take_le rs (k + 1)
          omega
        have hsz : (strB r).size = r.length := strB_size r
        obtain ⟨q, hq⟩ : ∃ q, (strB r).size = q := ⟨_, rfl⟩
        have hq3 : q < 30000 := by have := Hsm.out; omega
        have hqr : r.length = q := by omega
        have Hqr := Lib.hid hqr
        obtain ⟨n2, hn2⟩ : ∃ n2, (putB r).length = n2 := ⟨_, rfl⟩
        have hn3 := putB_length r
        rw [hn2, hqr] at hn3
        have Hq := Lib.hid hq
        have Hn2 := Lib.hid hn2
        by_cases hok : q ≤ 4096
        · have hn4 : n2 = q + 5 := by rw [hn3, if_neg (by omega)]
          have t1 : ((n2 : Int) == 0) = false := by rw [beq_eq_false_iff_ne]; omega
          have t2 : decide ((4096 : Int) < ((strB r).size : Int)) = false := by rw [hq]; simp; omega
          have t3 : decide ((0 : Int) < (n2 : Int)) = true := by simp; omega
          have t5 : 0 < n2 := by omega
          have t4 : ((n2 : Int) != ((strB r).size : Int) + 5) = false := by rw [hq, bne_eq_false_iff_eq]; omega
          have hszb : (strB r).size ≤ 30000 := by omega
          have hok1 := okR_take hr
          rw [if_pos (by omega)] at hok1
          have Hok := Lib.hid hok1
          clear hr hsz hq hqr hn2 hn3 hn4 hok1 hrl
          go_wp2_with fail
          refine hp.mono ?_
          rintro e w3 ⟨v3, rfl, hown3, hb3⟩
          obtain ⟨a3, c3, rfl, _, _⟩ := (BRow.of_owns hown3).len
          rw [Hn2.out]
          have hcell3 : w3.cell? (ad.add k) = some (.string (strB r)) := (hb3.cell (World.block_lt_of_cell? _ _ hcell)).trans hcell
          have HO3 := Lib.hid ((owns_below Hown.out hb3).alloc (.cells #[.string (strB r)] 9))
          have HB3 := Lib.hid ((Hb.out.trans (hb3.mono Hb.out.size)).alloc ((Hb.out.trans (hb3.mono Hb.out.size)).size) (.cells #[.string (strB r)] 9))
          have hcnt : (okR (rs.take k)).length + 1 ≤ 30000 := by
            have h1 := okR_le (rs.take k)
            have h2 := List.length_take_le k rs
            omega
          clear hp hown3 hb3 hcell
          go_wp2_with (first
            | (at_builtin; refine wpList_append_own _ rfl (.tmp 54) (.tmp 59) 24 rfl w.heap.size 9 i0 (.string .empty) 1 16 Try.underlying24 hi hz0 hz1 hz2 rfl (by decide) _ _ _ rfl HO3.out ⟨w3.heap.size, 0, none⟩ 1 1 (recCells [r]) rfl rfl (vals_new w3 _ _ _ _ rfl) (recCells_one _) (by unfold maxLen; omega) (by omega) HB3.out.size ?_; intro v4 w4 hown4 hgrow4 hnil4))
          have HB4 := Lib.hid (HB3.out.grown hgrow4 HB3.out.size (fun q hq => (HO3.out.lt q hq).1))
          have hown5 : w4.ownsRow w.heap.size 9 1 v4 (okR (rs.take (k + 1))).length (recCells (okR (rs.take (k + 1)))) := by
            rw [Hok.out, List.length_append]
            simpa [recCells] using hown4
          have HO4 := Lib.hid hown5
          clear hown4 hgrow4 hnil4 hown5
          go_wp2_with fail
          go_roundw
          case rel => exact ⟨k + 1, by omega, by go_num, HO4, HB4⟩
          case measure => simp [intOf]; omega
        · have hn4 : n2 = 0 := by rw [hn3, if_pos (by omega)]
          have t1 : ((n2 : Int) == 0) = true := by rw [beq_iff_eq]; omega
          have t2 : decide ((4096 : Int) < ((strB r).size : Int)) = true := by rw [hq]; simp; omega
          have t3 : decide ((0 : Int) < (n2 : Int)) = false := by simp; omega
          have hszb : (strB r).size ≤ 30000 := by omega
          have hok1 := okR_take hr
          rw [if_neg (by omega)] at hok1
          have Hok := Lib.hid hok1
          clear hr hsz hq hqr hn2 hn3 hn4 hok1 hrl
          go_wp2_with fail
          refine hp.mono ?_
          rintro e w3 ⟨v3, rfl, hown3, hb3⟩
          obtain ⟨a3, c3, rfl, _, _⟩ := (BRow.of_owns hown3).len
          rw [Hn2.out]
          have hcell3 : w3.cell? (ad.add k) = some (.string (strB r)) := (hb3.cell (World.block_lt_of_cell? _ _ hcell)).trans hcell
          have hown5 := owns_below Hown.out hb3
          rw [← Hok.out] at hown5
          have HO4 := Lib.hid hown5
          have HB4 := Lib.hid (Hb.out.trans (hb3.mono Hb.out.size))
          clear hp hown3 hb3 hcell hown5
          go_wp2_with fail
          go_roundw
          case rel => exact ⟨k + 1, by omega, by go_num, HO4, HB4⟩
          case measure => simp [intOf]; omega
      · have hk' : k = l := by omega
        have hfin : rs.take k = rs := by rw [hk', ← Hl.out]; exact List.take_length
        have hown := Hown.out
        rw [hfin] at hown
        have hml := Hml.out
        obtain ⟨aw, cw, rfl, htw, _⟩ := TRow.of_owns hown (fun r hr => hml r (List.mem_filter.1 hr).1)
        have HTW := Lib.hid htw
        have ha := all_calls wr a c rs (Hx.out.below Hb.out) (by have := Hsm.out; omega)
        rw [Hl.out] at ha
        have hokl : (okR rs).length ≤ maxLen := by have := okR_le rs; rw [Hl.out] at this; unfold maxLen; omega
        have hallb : (allB rs).length ≤ 1000000 := by have := allB_le rs; have := Hsm.out; omega
        obtain ⟨no, hno⟩ : ∃ no, (okR rs).length = no := ⟨_, rfl⟩
        rw [hno]
        have Hno := Lib.hid hno
        have Hallb := Lib.hid hallb
        have Hokl := Lib.hid hokl
        clear hfin hk' hown htw hml hno hallb hokl
        go_wp2_with fail
        refine ha.mono ?_
        rintro e w3 ⟨v3, rfl, hown3, hb3⟩
        have HTW3 := Lib.hid (HTW.out.below hb3)
        have hc := cut_calls w3 v3 (allB rs) (BRow.of_owns hown3) (by have := Hallb.out; omega)
        obtain ⟨a3, c3, rfl, _, _⟩ := (BRow.of_owns hown3).len
        have HB3 := Lib.hid (Hb.out.trans (hb3.mono Hb.out.size))
        obtain ⟨na, hna⟩ : ∃ na, (allB rs).length = na := ⟨_, rfl⟩
        rw [hna] at hc ⊢
        have Hna := Lib.hid hna
        clear ha hown3 hb3 hna
        go_wp2_with fail
        refine hc.mono ?_
        rintro e w4 ⟨v4, rfl, hown4, hb4⟩
        rw [cutB_all'] at hown4
        rw [cutN_all, Hna.out]
        obtain ⟨a4, c4, rfl, ht4, _⟩ := TRow.of_owns hown4 (fun r hr => Hml.out r (List.mem_filter.1 hr).1)
        have hsa := same_calls w4 a4 aw c4 cw (okR rs) (okR rs) ht4 (HTW3.out.below hb4) Hokl.out Hokl.out
        rw [Hno.out] at hsa ⊢
        have HB4 := Lib.hid (HB3.out.trans (hb4.mono HB3.out.size))
        have hsa' : Calls Try.prog 16 #[.slice a4 no c4, .slice aw no cw] w4 fun e w' => e = .returned (.bool true) ∧ ∃ n, w' = w4.drewN n := hsa.mono fun e w' ⟨h1, h2⟩ => ⟨by rw [h1, decide_eq_true rfl], h2⟩
        clear hc hown4 hb4 ht4 hsa
        go_wp2_with fail
        refine hsa'.mono ?_
        rintro e w5 ⟨rfl, n5, rfl⟩
        go_wp2_with fail
        go_ret
        exact ⟨rfl, fbelow_drewN HB4.out _⟩

end Go.Proofs.Ytmecpgnmeefpjaa
