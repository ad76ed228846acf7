/- The statement FrameTells, its walk. -/
import Derived.Test.YtmecpgnmeefpjaaFH
import Derived.Test.YtmecpgnmeefpjaaFE
import Derived.Deep.RegionHeld
namespace Go.Proofs.Ytmecpgnmeefpjaa
open Go.RowKit Go.Lib

set_option maxHeartbeats 8000000 in
set_option maxRecDepth 100000 in
theorem tells_walk (w : World) (s : ByteArray) (v : Value) (bs : List UInt8) (hs : s.size ≤ maxLen) (hx : BRow w v bs) : Calls Try.prog 3 #[.string s, v] w (FFine w) := by
  obtain ⟨a, c, rfl, hlc, hcm⟩ := hx.len
  obtain ⟨l, hl⟩ : ∃ l, bs.length = l := ⟨_, rfl⟩
  rw [hl] at hx hlc ⊢
  unfold maxLen at hcm
  have Hs := Lib.hid hs
  unfold maxLen at hs
  have Hx := Lib.hid hx
  have Hl := Lib.hid hl
  clear hx hl
  by_cases hbs : 9000 < s.size
  · have hd : decide ((9000 : Int) < (s.size : Int)) = true := by simp; omega
    go_enter Try.func3, Try.ntmps3
    go_wp2_with fail
    refine (fhead_calls w).mono ?_
    rintro e w1 ⟨rfl, hb1⟩
    have HB1 := Lib.hid hb1
    clear hb1
    go_wp2_with fail
    go_ret
    exact ⟨rfl, HB1.out⟩
  have hd0 : decide ((9000 : Int) < (s.size : Int)) = false := by simp; omega
  by_cases hbig : 20000 < l
  · have hd : decide ((20000 : Int) < (l : Int)) = true := by simp; omega
    go_enter Try.func3, Try.ntmps3
    go_wp2_with fail
    refine (fhead_calls w).mono ?_
    rintro e w1 ⟨rfl, hb1⟩
    have HB1 := Lib.hid hb1
    clear hb1
    go_wp2_with fail
    go_ret
    exact ⟨rfl, HB1.out⟩
  have hd : decide ((20000 : Int) < (l : Int)) = false := by simp; omega
  obtain ⟨cn, hcn⟩ : ∃ cn, cutN bs = cn := ⟨_, rfl⟩
  have Hcn := Lib.hid hcn
  obtain ⟨nr, hnr⟩ : ∃ nr, (cutB bs).length = nr := ⟨_, rfl⟩
  have Hnr := Lib.hid hnr
  have hnrl : nr ≤ 20000 := by have := cut_lens bs; rw [Hl.out] at this; omega
  clear hcn hnr
  go_enter Try.func3, Try.ntmps3
  go_wp2_with fail
  refine (fhead_calls w).mono ?_
  rintro e w1 ⟨rfl, hb1⟩
  have HB1 := Lib.hid hb1
  have HX1 := Lib.hid (Hx.out.below hb1)
  have hc1 := cut_calls w1 _ bs HX1.out (by rw [Hl.out]; omega)
  clear hb1 Hx
  go_wp2_with fail
  refine hc1.mono ?_
  rintro e w2 ⟨vl, rfl, hownl, hb2⟩
  obtain ⟨al, cl, rfl, htl, _⟩ := TRow.of_owns hownl (cut_mem bs)
  rw [Hnr.out, Hcn.out]
  have HB2 := Lib.hid (HB1.out.trans (hb2.mono HB1.out.size))
  have HX2 := Lib.hid (HX1.out.below hb2)
  have HL2 := Lib.hid htl
  have hc2 := rcut_calls w2 _ bs HX2.out (by rw [Hl.out]; omega)
  clear hc1 hownl hb2 htl HX1
  go_wp2_with fail
  refine hc2.mono ?_
  rintro e w3 ⟨vm, rfl, hownm, hb3⟩
  obtain ⟨am, cm, rfl, htm, _⟩ := TRow.of_owns hownm (cut_mem bs)
  rw [Hnr.out, Hcn.out]
  have hB3 : Hid (Below w.heap.size w w3.drew) := fbelow_drew (HB2.out.trans (hb3.mono HB2.out.size))
  have hL3 : Hid (TRow w3.drew al (cutB bs)) := (HL2.out.below hb3).drew
  have hM3 : Hid (TRow w3.drew am (cutB bs)) := htm.drew
  obtain ⟨sn, hsn⟩ : ∃ sn, sumN s.data.toList = sn := ⟨_, rfl⟩
  have HS1 : Hid (∀ W : World, Calls Try.prog 12 #[.string s] W fun e W' => e = .returned (.int .i64 sn) ∧ W = W') := fun W => by
    have h := sum_calls s W Hs.out
    rwa [hsn] at h
  have HS2 : Hid (∀ W : World, Calls Try.prog 13 #[.string s] W fun e W' => e = .returned (.int .i64 sn) ∧ W = W') := fun W => by
    have h := rsum_calls s W Hs.out
    rwa [hsn] at h
  obtain ⟨x, hxx⟩ : ∃ x, putB s.data.toList = x := ⟨_, rfl⟩
  have HP1 : Hid (∀ W : World, (Hid (TRow W al (cutB bs)) ∧ Hid (TRow W am (cutB bs)) ∧ Hid (Below w.heap.size w W)) → Calls Try.prog 14 #[.string s] W fun e W' => ∃ va, e = .returned va ∧ (convert 22 9 va).run Try.prog W' = .ok (.string (strB x)) W' ∧ Hid (BRow W' va x) ∧ Hid (TRow W' al (cutB bs)) ∧ Hid (TRow W' am (cutB bs)) ∧ Hid (Below w.heap.size w W')) := by
    intro W ⟨g1, g2, g3⟩
    refine (put_calls s W Hs.out).mono ?_
    rintro e W' ⟨va, rfl, ho, hb⟩
    rw [hxx] at ho
    exact ⟨va, rfl, conv_brow (BRow.of_owns ho), BRow.of_owns ho, g1.out.below hb, g2.out.below hb, g3.out.trans (hb.mono g3.out.size)⟩
  have HP2 : Hid (∀ (W : World) (va : Value), Hid (BRow W va x) → (Hid (TRow W al (cutB bs)) ∧ Hid (TRow W am (cutB bs)) ∧ Hid (Below w.heap.size w W)) → Calls Try.prog 15 #[.string s] W fun e W' => ∃ vb, e = .returned vb ∧ (convert 22 9 vb).run Try.prog W' = .ok (.string (strB x)) W' ∧ (convert 22 9 va).run Try.prog W' = .ok (.string (strB x)) W' ∧ Hid (TRow W' al (cutB bs)) ∧ Hid (TRow W' am (cutB bs)) ∧ Hid (Below w.heap.size w W')) := by
    intro W va g0 ⟨g1, g2, g3⟩
    refine (rput_calls s W Hs.out).mono ?_
    rintro e W' ⟨vb, rfl, ho, hb⟩
    rw [hxx] at ho
    exact ⟨vb, rfl, conv_brow (BRow.of_owns ho), conv_brow (g0.out.below hb), g1.out.below hb, g2.out.below hb, g3.out.trans (hb.mono g3.out.size)⟩
  have HSa : Hid (∀ W : World, (Hid (TRow W al (cutB bs)) ∧ Hid (TRow W am (cutB bs)) ∧ Hid (Below w.heap.size w W)) → Calls Try.prog 16 #[.slice al nr cl, .slice am nr cm] W fun e W' => e = .returned (.bool true) ∧ Hid (TRow W' al (cutB bs)) ∧ Hid (TRow W' am (cutB bs)) ∧ Hid (Below w.heap.size w W')) := by
    intro W ⟨g1, g2, g3⟩
    have h := same_calls W al am cl cm _ _ g1.out g2.out (by rw [Hnr.out]; unfold maxLen; omega) (by rw [Hnr.out]; unfold maxLen; omega)
    rw [Hnr.out] at h
    refine h.mono ?_
    rintro e W' ⟨he, n, rfl⟩
    exact ⟨by rw [he, decide_eq_true rfl], g1.out, g2.out, fbelow_drewN g3.out n⟩
  clear hc2 hownm hb3 htm hsn hxx HL2 HX2
  go_wp2_with fail
  go_region_held (fun W => Hid (TRow W al (cutB bs)) ∧ Hid (TRow W am (cutB bs)) ∧ Hid (Below w.heap.size w W))
    ((refine ⟨?_, ?_, ?_⟩ <;> assumption))
    (first
      | (go_at_call 12; refine (HS1.out _).mono ?_; rintro e w4 ⟨rfl, rfl⟩)
      | (go_at_call 13; refine (HS2.out _).mono ?_; rintro e w4 ⟨rfl, rfl⟩)
      | (go_at_call 14; refine (HP1.out _ ?_).mono ?_; (refine ⟨?_, ?_, ?_⟩ <;> assumption); rintro e w5 ⟨va, rfl, hva, rva, s1, s2, s3⟩)
      | (go_at_call 15; refine (HP2.out _ va rva ?_).mono ?_; (refine ⟨?_, ?_, ?_⟩ <;> assumption); rintro e w6 ⟨vb, rfl, hvb, hva', t1, t2, t3⟩)
      | (go_at_call 16; refine (HSa.out _ ?_).mono ?_; (refine ⟨?_, ?_, ?_⟩ <;> assumption); rintro e w7 ⟨rfl, y1, y2, y3⟩))
  all_goals
    go_wp2
    go_ret
    exact ⟨rfl, y3.out⟩

end Go.Proofs.Ytmecpgnmeefpjaa
