/- The statement DeviceGrows, its walk: whatever the name, the parts and what is kept, the call answers true and turns nothing that was there. -/
import Derived.Test.YtgkhnimdlkdaaaaDI
namespace Go.Proofs.Ytgkhnimdlkdaaaa
open Go.RowKit Go.Lib Go.Maps Go.ChangeMaps

/-- A row of texts that was handed in. -/
def SRow (w : World) (a : Option Addr) (ps : List ByteArray) : Prop := ∀ j s, ps[j]? = some s → ∃ ad, a = some ad ∧ ad.block < w.heap.size ∧ w.cell? (ad.add j) = some (.string s) ∧ s.size ≤ maxLen

theorem SRow.below {w w' : World} {a : Option Addr} {ps : List ByteArray} (h : SRow w a ps) (hb : Below w.heap.size w w') : SRow w' a ps := fun j s hj => by
  obtain ⟨ad, h1, h2, h3, h4⟩ := h j s hj
  exact ⟨ad, h1, Nat.lt_of_lt_of_le h2 hb.size, (hb.cell (by rw [add_block]; exact h2)).trans h3, h4⟩

def catB (ps : List ByteArray) (k : Nat) : List UInt8 := ((ps.take k).map fun s => s.data.toList).flatten
def sizeN (n0 : Nat) (ps : List ByteArray) : Nat → Nat
  | 0 => n0
  | k + 1 => sizeN n0 ps k + 1 + min ((ps[k]?.map fun s => s.size).getD 0) 20000

theorem catB_zero (ps : List ByteArray) : catB ps 0 = [] := by simp [catB]
theorem catB_succ {ps : List ByteArray} {k : Nat} {s : ByteArray} (h : ps[k]? = some s) : catB ps (k + 1) = catB ps k ++ s.data.toList := by
  simp [catB, List.take_add_one, h]
theorem sizeN_succ {ps : List ByteArray} {k n0 : Nat} {s : ByteArray} (h : ps[k]? = some s) : sizeN n0 ps (k + 1) = sizeN n0 ps k + 1 + min s.size 20000 := by simp [sizeN, h]
theorem catB_step (ps : List ByteArray) (k : Nat) : (catB ps k).length ≤ (catB ps (k + 1)).length := by
  cases h : ps[k]? with
  | none => simp [catB, List.take_add_one, h]
  | some s => rw [catB_succ h, List.length_append]; omega
theorem catB_mono (ps : List ByteArray) (k : Nat) : ∀ d : Nat, (catB ps k).length ≤ (catB ps (k + d)).length
  | 0 => Nat.le_refl _
  | d + 1 => Nat.le_trans (catB_mono ps k d) (catB_step ps (k + d))
theorem catB_le {n0 : Nat} {ps : List ByteArray} : ∀ (k : Nat), k ≤ ps.length → sizeN n0 ps k < 20000 → (catB ps k).length + k ≤ sizeN n0 ps k
  | 0, _, _ => by simp [catB_zero]
  | k + 1, hk, h => by
    have hs : ps[k]? = some ps[k] := List.getElem?_eq_getElem (by omega)
    rw [sizeN_succ hs] at h ⊢
    have ih := catB_le (n0 := n0) (ps := ps) k (by omega) (by omega)
    rw [catB_succ hs, List.length_append]
    have : (ps[k]).data.toList.length = (ps[k]).size := by simp
    omega

/-- The device that the parts are put to, with a right name. -/
def gM (nm : List UInt8) (ps : List ByteArray) (k : Nat) : DevM := if k = 0 then emptyM 4194304 0 else oneM 4194304 k nm ⟨catB ps k, 0, true⟩

section
variable {w w' : World} {own own' : Owner} {db fb rb : Nat} {D D' E E' : DataW Unit} {n n' : Nat} {m : DevM}

theorem gM_append {nm : List UInt8} {ps : List ByteArray} {k : Nat} {s : ByteArray} (h : Dev True w own db fb rb D E n (gM nm ps k)) (hn : nameOk nm = true) (hs : ps[k]? = some s) (hl : (catB ps (k + 1)).length < 20000) :
    appendM (gM nm ps k) (Maps.size D) (usedD D (gM nm ps k).files) nm s.data.toList = (gM nm ps (k + 1), 0) := by
  rw [catB_succ hs, List.length_append] at hl
  by_cases hk : k = 0
  · subst hk
    have e0 : gM nm ps 0 = emptyM 4194304 0 := rfl
    rw [e0] at h ⊢
    rw [(h.size_empty).1, (h.size_empty).2, append_empty hn (by omega) (by omega)]
    simp [gM, catB_succ hs, catB_zero]
  · have e0 : gM nm ps k = oneM 4194304 k nm ⟨catB ps k, 0, true⟩ := if_neg hk
    rw [e0] at h ⊢
    have h3 := (h.size_one).2.1
    rw [(h.size_one).1, h3, append_one hn (by simp only; omega) (by simp only; omega)]
    have e1 : gM nm ps (k + 1) = oneM 4194304 ((k + 1 : Nat) : Int) nm ⟨catB ps (k + 1), 0, true⟩ := if_neg (by omega)
    rw [e1, catB_succ hs]
    rfl

end

theorem crashF_settled (ks : List (ByteArray × Int)) (k d : List UInt8) : crashF ks k ⟨d, d.length, false⟩ = some ⟨d, d.length, false⟩ := by
  have e1 : cutK ks k ⟨d, d.length, false⟩ = d.length := by simp only [cutK]; omega
  simp [crashF, e1]

theorem Step.below {own : Owner} {w w' : World} (h : Step (fun _ => none) own w w') : Below w.heap.size w w' := h.fr.to_below (Nat.le_refl _) (fun k _ => by simp)

/-- What the law's call leaves. -/
def Fine (w : World) (e : Ending) (w' : World) : Prop := e = .returned (.bool true) ∧ Below w.heap.size w w'

set_option maxHeartbeats 4000000 in
set_option maxRecDepth 100000 in
theorem grows_walk (name : ByteArray) (a : Option Addr) (c : Nat) (ps : List ByteArray) (ka : Option Addr) (kc : Nat) (ks : List (ByteArray × Int)) (w : World) (hname : name.size ≤ maxLen) (hps : SRow w a ps) (hpl : ps.length ≤ maxLen) (hkl : ks.length ≤ maxLen)
    (hks : ks.length ≤ 100 → ∀ w1, Below w.heap.size w w1 → ∀ own : Owner, (∀ b, b < w.heap.size → own b = none) → KArg w1 own (.slice ka ks.length kc) ks) :
    Calls Try.prog 7 #[.string name, .slice a ps.length c, .slice ka ks.length kc] w (Fine w) := by
  have Hps := Lib.hid hps
  have Hks := Lib.hid hks
  obtain ⟨l, hl⟩ : ∃ l, ps.length = l := ⟨_, rfl⟩
  obtain ⟨q, hq⟩ : ∃ q, ks.length = q := ⟨_, rfl⟩
  rw [hl] at hpl ⊢
  rw [hq] at hkl ⊢
  have Hl := Lib.hid hl
  have Hq := Lib.hid hq
  unfold maxLen at hname hpl hkl
  have hname' : Hid (name.size ≤ maxLen) := hname
  have hcv := fun (w : World) (s : ByteArray) => conv_str w s
  clear hps hks hl hq
  go_enter Try.func7, Try.ntmps7
  go_wp2_with fail
  refine (head_calls w).mono ?_
  rintro e w1 ⟨rfl, hb1⟩
  have Hb1 := Lib.hid hb1
  have Hps1 := Lib.hid (Hps.out.below hb1)
  clear hb1
  go_wp2_with fail
  go_loop [8, 9] (fun n i => ∃ k nn : Nat, k ≤ l ∧ i = .int .i64 k ∧ n = .int .i64 nn ∧ Hid (nn = sizeN name.size ps k) ∧ nn ≤ max name.size 40001) (fun _ i => l - (intOf i).toNat)
  case atStart => exact ⟨0, name.size, Nat.zero_le _, rfl, rfl, rfl, by omega⟩
  case round =>
    obtain ⟨k, nn, hk, rfl, rfl, Hnn, hnb⟩ := hrel
    by_cases hgo : k < l ∧ nn < 20000
    · obtain ⟨hlt, hn2⟩ := hgo
      obtain ⟨s, hs⟩ : ∃ s, ps[k]? = some s := ⟨_, List.getElem?_eq_getElem (by rw [Hl.out]; exact hlt)⟩
      obtain ⟨ad, rfl, had, hcell, hss⟩ := Hps1.out k s hs
      unfold maxLen at hss
      have hT0 : (0 : Int) ≤ min (s.size : Int) 20000 := by omega
      have hT1 : min (s.size : Int) 20000 ≤ 20000 := by omega
      have Hnn1 : Hid (nn + 1 + min s.size 20000 = sizeN name.size ps (k + 1)) := by rw [sizeN_succ hs, ← Hnn.out]; rfl
      have hd : decide ((nn : Int) < 20000) = true := by simp; omega
      clear hs
      go_wp2
      go_round
      case rel => exact ⟨k + 1, nn + 1 + min s.size 20000, by omega, by go_num, by congr 1; omega, Hnn1, by omega⟩
      case measure => simp [intOf]; omega
    · by_cases hbig : 20000 ≤ nn
      · -- too much
        have hd2 : decide ((nn : Int) < 20000) = false := by simp; omega
        have hd3 : decide ((20000 : Int) ≤ (nn : Int)) = true := by simp; omega
        by_cases hlt : k < l
        all_goals
          go_wp2_with fail
          refine (Dev.new True w1 4194304 (by omega)).mono ?_
          rintro e w2 ⟨rfl, own2, _, st2⟩
          have hb2 := Hb1.out.trans ((st2.fr.to_below (B := w1.heap.size) (Nat.le_refl _) (fun k _ => by simp)).mono Hb1.out.size)
          clear st2
          go_wp2_with fail
          go_ret
          exact ⟨rfl, hb2⟩
      · obtain rfl : k = l := by omega
        have Htot : Hid ((catB ps k).length < 20000) := by have h1 := catB_le (n0 := name.size) k (by rw [Hl.out]; exact Nat.le_refl _) (by rw [← Hnn.out]; omega); rw [← Hnn.out] at h1; show _ < _; omega
        have Hps2 := Lib.hid Hps1.out
        go_wp2_with fail
        refine (Dev.new True w1 4194304 (by omega)).mono ?_
        rintro e w2 ⟨rfl, own2, h2, st2⟩
        have H2 : Hid (Dev True w2 own2 (w1.heap.size + 2) w1.heap.size (w1.heap.size + 1) (.map []) (.map []) 0 (emptyM 4194304 0)) := h2
        have ST2 := Lib.hid st2
        clear h2 st2
        by_cases hq : 100 < q
        · go_wp2_with fail
          go_ret
          exact ⟨rfl, Hb1.out.trans (ST2.out.below.mono Hb1.out.size)⟩
        have Hks1 : Hid (∀ (wr : World) (ow : Owner), Step (fun _ => none) ow w1 wr → KArg wr ow (.slice ka q kc) ks) := fun wr ow hst => by
          have h1 := Hks.out (by rw [Hq.out]; omega) w1 Hb1.out (fun _ => none) (fun _ _ => rfl)
          rw [Hq.out] at h1
          exact h1.step hst
        have hks100 : ks.length ≤ 1000000000000 := by rw [Hq.out]; omega
        have Hks100 := Lib.hid hks100
        clear hks100
        cases hnm : nameOk name.data.toList with
        | true =>
          have Hnm := Lib.hid hnm
          have hrn : ∀ w, Calls Try.prog 33 #[.string name] w fun e w' => e = .returned (.bool true) ∧ w = w' := fun w => by
            have h1 := rname_calls name w hname'.out
            rwa [Hnm.out] at h1
          clear hnm
          go_wp2_with fail
          go_loopw [11, 12] (fun al i wr => ∃ (j : Nat) (ow : Owner) (D : DataW Unit) (nn : Nat) (av : ByteArray), j ≤ k ∧ i = .int .i64 j ∧ al = .string av ∧ Hid (av.data.toList = catB ps j) ∧ Hid (Dev True wr ow (w1.heap.size + 2) w1.heap.size (w1.heap.size + 1) D (.map []) nn (gM name.data.toList ps j)) ∧ Hid (nn ≤ j) ∧ Hid (Step (fun _ => none) ow w1 wr))
            (fun _ i _ => k - (intOf i).toNat)
          case atStart => exact ⟨0, own2, _, 0, ⟨#[]⟩, Nat.zero_le _, rfl, rfl, rfl, H2.out, Nat.le_refl _, ST2⟩
          case round =>
            obtain ⟨j, ow, D, nn, av, hj, rfl, rfl, Hav, HD, Hnj, HS⟩ := hrel
            by_cases hlt : j < k
            · obtain ⟨s, hs⟩ : ∃ s, ps[j]? = some s := ⟨_, List.getElem?_eq_getElem (by rw [Hl.out]; exact hlt)⟩
              have hps3 := Hps1.out.below HS.out.below
              obtain ⟨ad, rfl, had, hcell, hss⟩ := hps3 j s hs
              have ha := (HD.out.below (bytesWorld_below' wr s)).append (by have := Hnj.out; have h1 := catB_le (n0 := name.size) k (by rw [Hl.out]; exact Nat.le_refl _) (by rw [← Hnn.out]; omega); rw [← Hnn.out] at h1; omega) (by
                have h1 := catB_le (n0 := name.size) k (by rw [Hl.out]; exact Nat.le_refl _) (by rw [← Hnn.out]; omega)
                rw [← Hnn.out] at h1
                unfold gM
                split <;> simp [emptyM, oneM]
                omega) hname'.out (BArg.conv wr s (grownCap wr s.size 0 5) (HD.out.old _ (Nat.le_refl _)))
              rw [gM_append HD.out Hnm.out hs (by have h5 := catB_mono ps (j + 1) (k - (j + 1)); rw [show j + 1 + (k - (j + 1)) = k by omega] at h5; have := Htot.out; omega)] at ha
              dsimp only at ha
              have hav1 : av.size + s.size ≤ 20000 := by
                have h5 := catB_mono ps (j + 1) (k - (j + 1))
                rw [show j + 1 + (k - (j + 1)) = k by omega] at h5
                have h6 := Htot.out
                rw [catB_succ hs, List.length_append, ← Hav.out] at h5
                simp at h5
                omega
              have Hs := Lib.hid hs
              have HW := Lib.hid (below_step ow (bytesWorld_below' wr s))
              clear hs hps3
              go_wp2_with fail
              refine ha.mono ?_
              rintro e w4 ⟨rfl, ow4, D4, h4, st4⟩
              have H4 := Lib.hid h4
              have HS4 := Lib.hid ((HS.out.trans HW.out).trans st4)
              have hcell4 : w4.cell? (ad.add j) = some (.string s) := by
                obtain ⟨ad', h5, _, h6, _⟩ := (Hps1.out.below HS4.out.below) j s Hs.out
                injection h5 with h5
                rw [h5]
                exact h6
              clear h4 st4 ha hcell
              go_wp2_with fail
              refine (hrn _).mono ?_
              rintro e w5 ⟨rfl, rfl⟩
              go_wp2_with fail
              go_roundw
              case rel =>
                refine ⟨j + 1, ow4, D4, nn + 1, _, by omega, by go_num, rfl, ?_, H4, by have := Hnj.out; show _ ≤ _; omega, HS4⟩
                show _ = _
                rw [catB_succ Hs.out, ← Hav.out]
                simp
              case measure => simp [intOf]; omega
            · obtain rfl : j = k := by omega
              obtain rfl : av = ⟨(catB ps j).toArray⟩ := by
                apply ByteArray.ext
                have h5 : av.data.toList = catB ps j := Hav.out
                rw [← h5]
              have hnl : nn ≤ 20000 := by have := Hnj.out; have h1 := catB_le (n0 := name.size) j (by rw [Hl.out]; exact Nat.le_refl _) (by rw [← Hnn.out]; omega); rw [← Hnn.out] at h1; omega
              by_cases hj0 : j = 0
              · subst hj0
                have e0 : gM name.data.toList ps 0 = emptyM 4194304 0 := rfl
                have hsy := HD.out.sync (by rw [e0]; simp [emptyM])
                rw [e0, sync_empty] at hsy
                dsimp only at hsy
                have Hnl := Lib.hid hnl
                clear hnl
                go_wp2_with fail
                refine hsy.mono ?_
                rintro e w4 ⟨rfl, E4, h4, st4⟩
                have HS4 := Lib.hid (HS.out.trans st4)
                have hcr := h4.crash trivial (by have := Hnl.out; omega) (Hks1.out w4 ow HS4.out) Hks100.out
                rw [crash_empty] at hcr
                clear h4 st4 hsy
                go_wp2_with fail
                refine hcr.mono ?_
                rintro e w5 ⟨rfl, ow5, D5, h5, st5⟩
                have HS5 := Lib.hid (HS4.out.trans st5)
                have hrd := h5.read hname'.out
                rw [read_empty Hnm.out] at hrd
                dsimp only at hrd
                clear h5 st5 hcr
                go_wp2_with fail
                refine hrd.mono ?_
                rintro e w6 ⟨v, rfl, hrow, hb6⟩
                have HS6 := Lib.hid (HS5.out.trans (below_step ow5 hb6))
                clear hrd hrow hb6
                go_wp2_with fail
                refine (hrn _).mono ?_
                rintro e w7 ⟨rfl, rfl⟩
                go_wp2_with fail
                go_ret
                exact ⟨rfl, Hb1.out.trans (HS6.out.below.mono Hb1.out.size)⟩
              · have e0 : gM name.data.toList ps j = oneM 4194304 j name.data.toList ⟨catB ps j, 0, true⟩ := if_neg hj0
                have hsy := HD.out.sync (by rw [e0]; simp only [oneM]; have := Hnj.out; have h1 := catB_le (n0 := name.size) j (by rw [Hl.out]; exact Nat.le_refl _) (by rw [← Hnn.out]; omega); rw [← Hnn.out] at h1; omega)
                rw [e0, sync_one] at hsy
                dsimp only [settleF] at hsy
                have Hnl := Lib.hid hnl
                have hjd : ((j : Int) == 0) = false := by simpa using hj0
                clear hnl e0
                go_wp2_with fail
                refine hsy.mono ?_
                rintro e w4 ⟨rfl, E4, h4, st4⟩
                have HS4 := Lib.hid (HS.out.trans st4)
                have hcr := h4.crash trivial (by have := Hnl.out; omega) (Hks1.out w4 ow HS4.out) Hks100.out
                rw [crash_one (crashF_settled ks name.data.toList (catB ps j))] at hcr
                clear h4 st4 hsy
                go_wp2_with fail
                refine hcr.mono ?_
                rintro e w5 ⟨rfl, ow5, D5, h5, st5⟩
                have HS5 := Lib.hid (HS4.out.trans st5)
                have hrd := h5.read hname'.out
                rw [read_one Hnm.out] at hrd
                dsimp only [settleF] at hrd
                have H5 := Lib.hid h5
                clear h5 st5 hcr
                go_wp2_with fail
                refine hrd.mono ?_
                rintro e w6 ⟨v, rfl, hrow, hb6⟩
                have HS6 := Lib.hid (HS5.out.trans (below_step ow5 hb6))
                have H6 := Lib.hid (H5.out.below hb6)
                have hcr2 := conv_row hrow
                have hus := H6.out.used (by have := Hnl.out; omega)
                rw [(H6.out.size_one).2.1] at hus
                dsimp only [settleF] at hus
                clear hrd hrow hb6
                go_wp2_with fail
                refine (hrn _).mono ?_
                rintro e w7 ⟨rfl, rfl⟩
                go_wp2_with fail
                refine hus.mono ?_
                rintro e w8 ⟨rfl, hb8⟩
                have HS8 := Lib.hid (HS6.out.trans (below_step ow5 hb8))
                clear hus hb8
                go_wp2_with fail
                go_ret
                exact ⟨rfl, Hb1.out.trans (HS8.out.below.mono Hb1.out.size)⟩
        | false =>
          have Hnm := Lib.hid hnm
          have hrn : ∀ w, Calls Try.prog 33 #[.string name] w fun e w' => e = .returned (.bool false) ∧ w = w' := fun w => by
            have h1 := rname_calls name w hname'.out
            rwa [Hnm.out] at h1
          clear hnm
          go_wp2_with fail
          go_loopw [11, 12] (fun al i wr => ∃ (j : Nat) (ow : Owner) (D : DataW Unit) (nn : Nat) (av : ByteArray), j ≤ k ∧ i = .int .i64 j ∧ al = .string av ∧ Hid (av.data.toList = catB ps j) ∧ Hid (Dev True wr ow (w1.heap.size + 2) w1.heap.size (w1.heap.size + 1) D (.map []) nn (emptyM 4194304 0)) ∧ Hid (nn ≤ j) ∧ Hid (Step (fun _ => none) ow w1 wr))
            (fun _ i _ => k - (intOf i).toNat)
          case atStart => exact ⟨0, own2, _, 0, ⟨#[]⟩, Nat.zero_le _, rfl, rfl, rfl, H2.out, Nat.le_refl _, ST2⟩
          case round =>
            obtain ⟨j, ow, D, nn, av, hj, rfl, rfl, Hav, HD, Hnj, HS⟩ := hrel
            have hnl : nn ≤ 20000 := by have := Hnj.out; have h1 := catB_le (n0 := name.size) k (by rw [Hl.out]; exact Nat.le_refl _) (by rw [← Hnn.out]; omega); rw [← Hnn.out] at h1; omega
            have Hnl := Lib.hid hnl
            clear hnl
            by_cases hlt : j < k
            · obtain ⟨s, hs⟩ : ∃ s, ps[j]? = some s := ⟨_, List.getElem?_eq_getElem (by rw [Hl.out]; exact hlt)⟩
              have hps3 := Hps1.out.below HS.out.below
              obtain ⟨ad, rfl, had, hcell, hss⟩ := hps3 j s hs
              have ha := (HD.out.below (bytesWorld_below' wr s)).append (by have := Hnl.out; omega) (by simp [emptyM]) hname'.out (BArg.conv wr s (grownCap wr s.size 0 5) (HD.out.old _ (Nat.le_refl _)))
              rw [append_bad Hnm.out] at ha
              dsimp only at ha
              have hav1 : av.size + s.size ≤ 20000 := by
                have h5 := catB_mono ps (j + 1) (k - (j + 1))
                rw [show j + 1 + (k - (j + 1)) = k by omega] at h5
                have h6 := Htot.out
                rw [catB_succ hs, List.length_append, ← Hav.out] at h5
                simp at h5
                omega
              have Hs := Lib.hid hs
              have HW := Lib.hid (below_step ow (bytesWorld_below' wr s))
              clear hs hps3
              go_wp2_with fail
              refine ha.mono ?_
              rintro e w4 ⟨rfl, ow4, D4, h4, st4⟩
              have H4 := Lib.hid h4
              have HS4 := Lib.hid ((HS.out.trans HW.out).trans st4)
              have hcell4 : w4.cell? (ad.add j) = some (.string s) := by
                obtain ⟨ad', h5, _, h6, _⟩ := (Hps1.out.below HS4.out.below) j s Hs.out
                injection h5 with h5
                rw [h5]
                exact h6
              clear h4 st4 ha hcell
              go_wp2_with fail
              refine (hrn _).mono ?_
              rintro e w5 ⟨rfl, rfl⟩
              go_wp2_with fail
              go_roundw
              case rel =>
                refine ⟨j + 1, ow4, D4, nn + 1, _, by omega, by go_num, rfl, ?_, H4, by have := Hnj.out; show _ ≤ _; omega, HS4⟩
                show _ = _
                rw [catB_succ Hs.out, ← Hav.out]
                simp
              case measure => simp [intOf]; omega
            · have hsy := HD.out.sync (by simp [emptyM])
              rw [sync_empty] at hsy
              dsimp only at hsy
              go_wp2_with fail
              refine hsy.mono ?_
              rintro e w4 ⟨rfl, E4, h4, st4⟩
              have HS4 := Lib.hid (HS.out.trans st4)
              have hcr := h4.crash trivial (by have := Hnl.out; omega) (Hks1.out w4 ow HS4.out) Hks100.out
              rw [crash_empty] at hcr
              clear h4 st4 hsy
              go_wp2_with fail
              refine hcr.mono ?_
              rintro e w5 ⟨rfl, ow5, D5, h5, st5⟩
              have HS5 := Lib.hid (HS4.out.trans st5)
              have H5 := Lib.hid h5
              have hrd := h5.read hname'.out
              rw [read_bad Hnm.out] at hrd
              dsimp only at hrd
              clear h5 st5 hcr
              go_wp2_with fail
              refine hrd.mono ?_
              rintro e w6 ⟨v, rfl, hrow, hb6⟩
              have HS6 := Lib.hid (HS5.out.trans (below_step ow5 hb6))
              have hus := (H5.out.below hb6).used (by have := Hnl.out; omega)
              rw [((H5.out.below hb6).size_empty).2] at hus
              clear hrd hrow hb6
              go_wp2_with fail
              refine (hrn _).mono ?_
              rintro e w7 ⟨rfl, rfl⟩
              go_wp2_with fail
              refine hus.mono ?_
              rintro e w8 ⟨rfl, hb8⟩
              have HS8 := Lib.hid (HS6.out.trans (below_step ow5 hb8))
              clear hus hb8
              go_wp2_with fail
              go_ret
              exact ⟨rfl, Hb1.out.trans (HS8.out.below.mono Hb1.out.size)⟩

end Go.Proofs.Ytgkhnimdlkdaaaa
