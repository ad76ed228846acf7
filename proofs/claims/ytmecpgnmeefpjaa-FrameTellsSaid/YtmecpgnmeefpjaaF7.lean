/- The live question of the layer's statements is answered true. -/
import Derived.Test.YtmecpgnmeefpjaaF6
import Derived.Lib.SlBytesConst
namespace Go.Proofs.Ytmecpgnmeefpjaa
open Go.RowKit Go.Lib

theorem BRow.new (w : World) (bs : List UInt8) (cs : Array Value) (t : TypeId) (fr : Nat × Nat) (h : cs.toList = byteCells bs) (c : Nat) (h1 : bs.length ≤ c) (h2 : c ≤ maxLen) : BRow (w.alloc (.cells cs t fr)) (.slice (some ⟨w.heap.size, 0, none⟩) bs.length c) bs :=
  ⟨_, c, rfl, h1, h2, (fun e => by cases e), fun j x hj => ⟨_, rfl, cells_new w bs cs t fr h j _ (by simp [byteCells, hj])⟩⟩

theorem ownsRow_empty (w : World) (t : TypeId) {B : Nat} (hB : B ≤ w.heap.size) : (w.alloc (.cells #[] t)).ownsRow B t 1 (.slice (some ⟨w.heap.size, 0, none⟩) 0 0) 0 (byteCells []) :=
  ⟨rfl, .inr ⟨w.heap.size, 0, #[], rfl, hB, by show (w.heap.push _)[w.heap.size]? = _; simp, Nat.le_refl _, by unfold maxLen; omega, rfl, rfl⟩⟩

theorem frame_a : putB [97] = [82, 0, 1, 100, 99, 97] := by decide +kernel
theorem cut_a : cutB [82, 0, 1, 100, 99, 97, 82, 0, 1] = [[97]] := by
  rw [cutB_some (r := [97]) (by decide +kernel), cutB_none (by decide +kernel)]
theorem cut_e : cutB [82, 0, 0, 1, 1, 82] = [[]] := by
  rw [cutB_some (r := []) (by decide +kernel), cutB_none (by decide +kernel)]

set_option maxHeartbeats 4000000 in
set_option maxRecDepth 100000 in
theorem fhead_calls (w : World) : Calls Try.prog 9 #[] w fun e w' => e = .returned (.bool true) ∧ Below w.heap.size w w' := by
  have hcv := fun (w : World) (C : Array Value) (n c : Nat) => Lib.run_convert_bytes_const (P := Try.prog) w 22 5 C n c Try.underlying22 Try.underlying5
  have hp := put_calls ⟨#[97]⟩ w (by unfold maxLen; decide)
  have e97 : (⟨#[97]⟩ : ByteArray).data.toList = [97] := rfl
  rw [e97, frame_a] at hp
  obtain ⟨i0, hi, hz0, hz1, hz2⟩ := info_parts infoB8
  clear e97
  go_enter Try.func9, Try.ntmps9
  go_wp2_with fail
  refine hp.mono ?_
  rintro e w1 ⟨v1, rfl, hown1, hb1⟩
  have HO1 := Lib.hid hown1
  have HB1 := Lib.hid hb1
  have hbr1 := Lib.hid ((BRow.of_owns hown1).below ((Below.refl _ _).alloc (Nat.le_refl _) (.cells #[] 5)))
  have hown0 := Lib.hid (ownsRow_empty w1 5 (B := w1.heap.size) (Nat.le_refl _))
  clear hp hown1 hb1
  go_wp2_with (first
    | (at_builtin; refine wpList_append_brow rfl (.tmp 8) (.tmp 9) rfl hbr1.out hown0.out (by simp) (by simp) rfl rfl ?_; intro v2 w2 hown2 hgrow2)
    | (at_builtin; refine wpList_append_own _ rfl (.tmp 10) (.tmp 11) 22 rfl w1.heap.size 5 i0 (.int .u8 0) 1 1 Try.underlying22 hi hz0 hz1 hz2 rfl (by decide) _ _ _ rfl (hown2.alloc _) ⟨w2.heap.size, 0, none⟩ 3 3 (byteCells [82, 0, 1]) rfl rfl (cells_new w2 [82, 0, 1] _ _ _ rfl) (byteCells_one _) (by unfold maxLen; simp) (by simp) (by have := hgrow2.size; simp at this ⊢; omega) ?_; intro v3 w3 hown3 hgrow3 hnil3))
  have hb2 : Below w1.heap.size w1 w2 := ((Below.refl _ w1).alloc (Nat.le_refl _) _).grown hgrow2 (by simp) (fun q hq => (hown0.out.lt q hq).1)
  have hb3 : Below w1.heap.size w1 w3 := (hb2.alloc hb2.size _).grown hgrow3 (by have := hb2.size; simp; omega) (fun q hq => (hown2.lt q hq).1)
  have HB3 := Lib.hid (HB1.out.trans (hb3.mono HB1.out.size))
  have hown4 : w3.ownsRow w1.heap.size 5 1 v3 9 (byteCells [82, 0, 1, 100, 99, 97, 82, 0, 1]) := by simpa [byteCells] using hown3
  have hc1 := cut_calls w3 v3 _ (BRow.of_owns hown4) (by decide)
  have hbr1' := Lib.hid ((BRow.of_owns HO1.out).below hb3)
  clear hown2 hgrow2 hown3 hgrow3 hnil3 hb2 hb3 hown4 hown0 hbr1
  go_wp2_with fail
  refine hc1.mono ?_
  rintro e w4 ⟨v4, rfl, hown4, hb4⟩
  rw [cut_a] at hown4
  have HB4 := Lib.hid (HB3.out.trans (hb4.mono HB3.out.size))
  have hbr2 := hbr1'.out.below hb4
  obtain ⟨a4, c4, rfl, htr4, _⟩ := TRow.of_owns hown4 (fun r hr => by simp at hr; subst hr; unfold maxLen; simp)
  have hcn : cutN [82, 0, 1, 100, 99, 97, 82, 0, 1] = 6 := by rw [cutN, cut_a]; rfl
  rw [hcn]
  have HT4 := Lib.hid htr4
  have HR2 := Lib.hid hbr2
  have hc2 := cut_calls (w4.alloc (.cells #[.int .u8 82, .int .u8 0, .int .u8 0, .int .u8 1, .int .u8 1, .int .u8 82] 5 (6, 7))) (.slice (some ⟨w4.heap.size, 0, none⟩) 6 6) [82, 0, 0, 1, 1, 82] (BRow.new w4 [82, 0, 0, 1, 1, 82] _ _ _ rfl 6 (by decide) (by unfold maxLen; decide)) (by decide)
  clear hc1 hown4 hb4 hcn htr4 hbr2 HO1 hbr1'
  go_wp2_with fail
  refine hc2.mono ?_
  rintro e w5 ⟨v5, rfl, hown5, hb5⟩
  rw [cut_e] at hown5
  have hb45 : Below w4.heap.size w4 w5 := ((Below.refl _ w4).alloc (Nat.le_refl _) _).trans (hb5.mono (by simp))
  have HB5 := HB4.out.trans (hb45.mono HB4.out.size)
  obtain ⟨a5, c5, rfl, _, _⟩ := TRow.of_owns hown5 (fun r hr => by simp at hr; subst hr; unfold maxLen; simp)
  have hcn : cutN [82, 0, 0, 1, 1, 82] = 5 := by rw [cutN, cut_e]; rfl
  rw [hcn]
  obtain ⟨A4, rfl, hA4, _⟩ := (HT4.out.below hb45) 0 [97] rfl
  rw [Addr.add_zero'] at hA4
  have hA4' : w5.cell? A4 = some (.string ⟨#[97]⟩) := hA4
  have hcr : (convert 22 9 v1).run Try.prog w5 = .ok (.string ⟨#[82, 0, 1, 100, 99, 97]⟩) w5 := conv_brow (HR2.out.below hb45)
  have hs0 : Calls Try.prog 12 #[.string ⟨#[]⟩] w5 fun e w' => e = .returned (.int .i64 257) ∧ w5 = w' := sum_calls ⟨#[]⟩ w5 (by unfold maxLen; decide)
  have hsn : sumN [97] = 25699 := by decide +kernel
  have hs1 : Calls Try.prog 12 #[.string ⟨#[97]⟩] w5 fun e w' => e = .returned (.int .i64 25699) ∧ w5 = w' := by
    have h := sum_calls ⟨#[97]⟩ w5 (by unfold maxLen; decide)
    rw [show (⟨#[97]⟩ : ByteArray).data.toList = [97] from rfl, hsn] at h
    exact h
  have HBF := Lib.hid HB5

  have hl2 : ([[]] : List (List UInt8)).length = 1 := rfl
  rw [hl2]
  clear hc2 hown5 hb5 hb45 HB5 hcn HT4 HR2 hA4 hsn hcv hl2
  go_wp2_with fail
  refine hs0.mono ?_
  rintro e w6 ⟨rfl, rfl⟩
  go_wp2_with fail
  refine hs1.mono ?_
  rintro e w6 ⟨rfl, rfl⟩
  go_wp2_with fail
  go_ret
  exact ⟨rfl, HBF.out⟩

end Go.Proofs.Ytmecpgnmeefpjaa
