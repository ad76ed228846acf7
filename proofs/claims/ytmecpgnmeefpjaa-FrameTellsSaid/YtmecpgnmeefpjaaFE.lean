/- The statement FramePrefix, its walk. -/
import Derived.Test.YtmecpgnmeefpjaaF8
import Derived.Deep.RegionHeld3
import Derived.Deep.RegionWith
namespace Go.Proofs.Ytmecpgnmeefpjaa
open Go.RowKit Go.Lib

theorem BRow.drew {w : World} {v : Value} {bs : List UInt8} (h : BRow w v bs) : BRow w.drew v bs := h
theorem TRow.drew {w : World} {a : Option Addr} {rs : List (List UInt8)} (h : TRow w a rs) : TRow w.drew a rs := h
theorem fbelow_drew {B : Nat} {a w : World} (h : Below B a w) : Below B a w.drew := ⟨h.os, h.tape, h.output, h.size, h.block⟩

theorem cut_lens (l : List UInt8) : (cutB l).length + lenS (cutB l) ≤ l.length := by
  have h1 := cutN_le _ l rfl
  have h2 : ∀ rs : List (List UInt8), rs.length + lenS rs ≤ lensN rs := fun rs => by
    induction rs with
    | nil => simp [lensN, lenS]
    | cons r rs ih => simp only [lensN, lenS, List.map_cons, List.sum_cons, List.length_cons] at *; omega
  have h3 := h2 (cutB l)
  unfold cutN at h1
  omega

theorem cut_mem (l : List UInt8) : ∀ r ∈ cutB l, r.length ≤ maxLen := fun r hr => by
  have h : r ∈ okR (cutB l) := by rw [okR_cut]; exact hr
  have := (List.mem_filter.1 h).2
  simp at this
  unfold maxLen
  omega

set_option maxHeartbeats 8000000 in
set_option maxRecDepth 100000 in
theorem prefix_walk (w : World) (v : Value) (bs : List UInt8) (hx : BRow w v bs) : Calls Try.prog 6 #[v] w (FFine w) := by
  obtain ⟨a, c, rfl, hlc, hcm⟩ := hx.len
  obtain ⟨l, hl⟩ : ∃ l, bs.length = l := ⟨_, rfl⟩
  rw [hl] at hx hlc ⊢
  unfold maxLen at hcm
  have Hx := Lib.hid hx
  have Hl := Lib.hid hl
  clear hx hl
  by_cases hbig : 20000 < l
  · have hd : decide ((20000 : Int) < (l : Int)) = true := by simp; omega
    go_enter Try.func6, Try.ntmps6
    go_wp2_with fail
    refine (fhead_calls w).mono ?_
    rintro e w1 ⟨rfl, hb1⟩
    have HB1 := Lib.hid hb1
    clear hb1
    go_wp2_with fail
    go_ret
    exact ⟨rfl, HB1.out⟩
  have hd : decide ((20000 : Int) < (l : Int)) = false := by simp; omega
  obtain ⟨cn, hcn⟩ : ∃ cn, cutN bs = cn := ⟨_, rfl⟩
  have hcl : cn ≤ l := by rw [← hcn, ← Hl.out]; exact cutN_le _ bs rfl
  obtain ⟨h1, h2⟩ := all_cutB _ bs rfl
  rw [hcn] at h1 h2
  have Hall := Lib.hid h1
  have Hno := Lib.hid h2
  have Hcn := Lib.hid hcn
  obtain ⟨nr, hnr⟩ : ∃ nr, (cutB bs).length = nr := ⟨_, rfl⟩
  have Hnr := Lib.hid hnr
  clear h1 h2 hcn hnr
  go_enter Try.func6, Try.ntmps6
  go_wp2_with fail
  refine (fhead_calls w).mono ?_
  rintro e w1 ⟨rfl, hb1⟩
  have HB1 := Lib.hid hb1
  have HX1 := Lib.hid (Hx.out.below hb1)
  have hc1 := cut_calls w1 _ bs HX1.out (by rw [Hl.out]; omega)
  clear hb1 Hx
  go_wp2_with fail
  refine hc1.mono ?_
  rintro e w2 ⟨vl, rfl, hownl, hb2⟩
  obtain ⟨al, cl, rfl, htl, _⟩ := TRow.of_owns hownl (cut_mem bs)
  rw [Hnr.out, Hcn.out]
  have HB2 := Lib.hid (HB1.out.trans (hb2.mono HB1.out.size))
  have hx2 := HX1.out.below hb2
  have HX2 := Lib.hid hx2
  obtain ⟨vn, hvn, hbn⟩ := hx2.upto (m := cn) (by rw [Hl.out]; exact hcl)
  obtain ⟨vd, hvd, hbd⟩ := hx2.drop (k := cn) (by rw [Hl.out]; exact hcl)
  obtain ⟨x, hxx⟩ : ∃ x, bs.take cn = x := ⟨_, rfl⟩
  rw [hxx] at hbn
  have Hxx := Lib.hid hxx
  have hcv0 : (convert 22 9 vn).run Try.prog w2.drew = .ok (.string (strB x)) w2.drew := conv_brow hbn.drew
  have hbn0 : Hid (BRow w2.drew vn x) := hbn.drew
  have hbd0 : Hid (BRow w2.drew vd (bs.drop cn)) := hbd.drew
  have htl0 : Hid (TRow w2.drew al (cutB bs)) := htl.drew
  have hbb0 : Hid (Below w.heap.size w w2.drew) := fbelow_drew HB2.out
  have HallC : Hid (∀ W : World, ((convert 22 9 vn).run Try.prog W = .ok (.string (strB x)) W ∧ Hid (BRow W vn x) ∧ Hid (BRow W vd (bs.drop cn)) ∧ Hid (TRow W al (cutB bs)) ∧ Hid (Below w.heap.size w W)) → Calls Try.prog 18 #[.slice al nr cl] W fun e W' => ∃ va, e = .returned va ∧ (convert 22 9 va).run Try.prog W' = .ok (.string (strB x)) W' ∧ (convert 22 9 vn).run Try.prog W' = .ok (.string (strB x)) W' ∧ Hid (BRow W' vn x) ∧ Hid (BRow W' vd (bs.drop cn)) ∧ Hid (TRow W' al (cutB bs)) ∧ Hid (Below w.heap.size w W')) := by
    intro W ⟨_, g1, g2, g3, g4⟩
    have h := all_calls W al cl (cutB bs) g3.out (by have := cut_lens bs; rw [Hl.out] at this; omega)
    rw [Hnr.out] at h
    refine h.mono ?_
    rintro e W' ⟨va, rfl, ho, hb⟩
    have hr := BRow.of_owns ho
    rw [Hall.out, Hxx.out] at hr
    exact ⟨va, rfl, conv_brow hr, conv_brow (g1.out.below hb), g1.out.below hb, g2.out.below hb, g3.out.below hb, g4.out.trans (hb.mono g4.out.size)⟩
  have hlt0 : decide ((cn : Int) < 0) = false := by simp
  have hlt1 : decide (l < cn) = false := by simp; omega
  have hcl' : (cn : Int) ≤ l := by omega
  clear hc1 hownl hb2 htl hx2 hbn hbd hxx
  go_wp2_with fail
  go_region_held (fun W => (convert 22 9 vn).run Try.prog W = .ok (.string (strB x)) W ∧ Hid (BRow W vn x) ∧ Hid (BRow W vd (bs.drop cn)) ∧ Hid (TRow W al (cutB bs)) ∧ Hid (Below w.heap.size w W))
    ((refine ⟨?_, ?_, ?_, ?_, ?_⟩ <;> assumption))
    (first
      | (go_at_call 18; refine (HallC.out _ ?_).mono ?_; (refine ⟨?_, ?_, ?_, ?_, ?_⟩ <;> assumption); rintro e w3 ⟨va, rfl, hva, s1, s2, s3, s4, s5⟩))
  all_goals
    have hc2 := cut_calls w3 vd _ s3.out (by rw [List.length_drop, Hl.out]; omega)
    clear hva s1 HallC hcv0
    go_wp2_with fail
    refine hc2.mono ?_
    rintro e w4 ⟨v4, rfl, hown4, hb4⟩
    have hcb := cutB_none Hno.out
    have hcn : cutN (bs.drop cn) = 0 := by rw [cutN, hcb]; rfl
    rw [hcb] at hown4
    rw [hcn]
    have HB4 := Lib.hid (s5.out.trans (hb4.mono s5.out.size))
    obtain ⟨a4, c4, rfl, _, _⟩ := TRow.of_owns hown4 (fun r hr => by cases hr)
    have hl0 : ([] : List (List UInt8)).length = 0 := rfl
    rw [hl0]
    clear hc2 hown4 hb4 hcb hcn hl0
    go_wp2_with fail
    go_ret
    exact ⟨rfl, HB4.out⟩

end Go.Proofs.Ytmecpgnmeefpjaa
