/- Words: the live question of the layer's statements. -/
import Derived.Test.YtejpakagbojaiaaDoorL7x
import Derived.Deep.DeepCutAuto
import Derived.Deep.QuietTactic
import Derived.BigQuiet
namespace Go.Proofs.YtejpakagbojaiaaDoor
open Go.RowKit Go.Lib Go.Op

theorem xkeep {w w' : World} (hb : Below w.heap.size w w') {p : Addr} {v : Value} (h : w.cell? p = some v) : w'.cell? p = some v := (hb.cell (World.block_lt_of_cell? _ _ h)).trans h

def hX1 : List XTok × Nat × Nat := ([⟨1, [97, 49], 1⟩, ⟨4, [62, 61], 3⟩, ⟨2, [49, 48], 5⟩, ⟨3, [120, 32, 121], 8⟩], 0, 0)
theorem hX1_is : readX [32, 97, 49, 62, 61, 49, 48, 32, 39, 120, 32, 121, 39] = hX1 := by kernel_rfl
theorem hX2_is : readX [97, 32, 48, 49] = ([], 71, 2) := by kernel_rfl
theorem hX3_is : readX [97, 32, 39, 98] = ([], 71, 2) := by kernel_rfl

def HdQ (w : World) (e : Ending) (w' : World) : Prop := ∃ g c, e = .returned (.tuple #[.slice (some ⟨g, 0, none⟩) 4 c, .int .i64 0, .int .i64 0]) ∧ Below w.heap.size w w' ∧
  w'.cell? ⟨g, 0, none⟩ = some (.int .i64 1) ∧ w'.cell? ⟨g, 1, none⟩ = some (.string ⟨#[97, 49]⟩) ∧ w'.cell? ⟨g, 2, none⟩ = some (.int .i64 1) ∧
  w'.cell? ⟨g, 3, none⟩ = some (.int .i64 4) ∧ w'.cell? ⟨g, 4, none⟩ = some (.string ⟨#[62, 61]⟩) ∧ w'.cell? ⟨g, 6, none⟩ = some (.int .i64 2) ∧ w'.cell? ⟨g, 10, none⟩ = some (.string ⟨#[120, 32, 121]⟩)
theorem hd_read {w : World} (hv : XVars w) : Calls Tryd.prog 7 #[.string ⟨#[32, 97, 49, 62, 61, 49, 48, 32, 39, 120, 32, 121, 39]⟩] w (HdQ w) := by
  refine (read_calls hv ⟨#[32, 97, 49, 62, 61, 49, 48, 32, 39, 120, 32, 121, 39]⟩ [32, 97, 49, 62, 61, 49, 48, 32, 39, 120, 32, 121, 39] rfl (by decide)).mono ?_
  rintro e w' ⟨v, rfl, ho, hb⟩
  rw [hX1_is] at ho ⊢
  obtain ⟨a, c, rfl, hc⟩ := ho.cells
  obtain ⟨g, rfl, a0, a1, a2⟩ := hc 0 _ rfl
  obtain ⟨g', e1, b0, b1, b2⟩ := hc 1 _ rfl
  injection e1 with e1
  injection e1 with e1
  subst e1
  obtain ⟨g', e1, c0, c1, c2⟩ := hc 2 _ rfl
  injection e1 with e1
  injection e1 with e1
  subst e1
  obtain ⟨g', e1, d0, d1, d2⟩ := hc 3 _ rfl
  injection e1 with e1
  injection e1 with e1
  subst e1
  exact ⟨g, c, rfl, hb, a0, a1, a2, b0, b1, c0, d1⟩

def NoQ (w : World) (x p : Int) (e : Ending) (w' : World) : Prop := ∃ a l c, e = .returned (.tuple #[.slice a l c, .int .i64 x, .int .i64 p]) ∧ Below w.heap.size w w'
theorem no_read {w : World} (hv : XVars w) (s : ByteArray) (l : List UInt8) (hl : s.data.toList = l) (hs : s.size ≤ 100000) {x p : Nat} (hr : readX l = ([], x, p)) : Calls Tryd.prog 7 #[.string s] w (NoQ w x p) := by
  refine (read_calls hv s l hl hs).mono ?_
  rintro e w' ⟨v, rfl, ho, hb⟩
  rw [hr] at ho ⊢
  obtain ⟨a, c, rfl⟩ := ho.slice
  exact ⟨a, _, c, rfl, hb⟩

set_option maxHeartbeats 600000 in
set_option maxRecDepth 100000 in
theorem xhead_calls {w : World} (hv : XVars w) : Calls Tryd.prog 6 #[] w fun e w' => e = .returned (.bool true) ∧ Below w.heap.size w w' := by
  have HR1 := Lib.hid (hd_read hv)
  have HV := Lib.hid hv
  clear hv
  go_enter Tryd.func6, Tryd.ntmps6
  go_wp2_with fail
  with_reducible refine HR1.out.mono ?_
  rintro e w1 ⟨g, c, rfl, hb1, a0, a1, a2, b0, b1, c0, d1⟩
  have HB1 := Lib.hid hb1
  clear hb1
  have HR2 := Lib.hid (no_read (HV.out.below HB1.out) ⟨#[97, 32, 48, 49]⟩ [97, 32, 48, 49] rfl (by decide) hX2_is)
  go_wp2_with fail
  with_reducible refine HR2.out.mono ?_
  rintro e w2 ⟨a8, l8, c8, rfl, hb2⟩
  have HB2 := Lib.hid hb2
  clear hb2
  have HR3 := Lib.hid (no_read (HV.out.below (HB1.out.trans (HB2.out.mono HB1.out.size))) ⟨#[97, 32, 39, 98]⟩ [97, 32, 39, 98] rfl (by decide) hX3_is)
  go_wp2_with fail
  with_reducible refine HR3.out.mono ?_
  rintro e w3 ⟨a9, l9, c9, rfl, hb3⟩
  have HB3 := Lib.hid (HB2.out.trans (hb3.mono HB2.out.size))
  clear hb3
  clear HR1 HR2 HR3
  have e0 := xkeep HB3.out a0
  have e1 := xkeep HB3.out a1
  have e2 := xkeep HB3.out a2
  have e3 := xkeep HB3.out b0
  have e4 := xkeep HB3.out b1
  have e5 := xkeep HB3.out c0
  have e6 := xkeep HB3.out d1
  have HK1 := Lib.hid (fun W => key_seq W)
  have HK2 := Lib.hid (fun W => key_se W)
  clear a0 a1 a2 b0 b1 c0 d1
  go_wp2_with (first
    | (go_at_call 9; (with_reducible refine (HK1.out _).mono ?_); rintro e w4 ⟨rfl, rfl⟩)
    | (go_at_call 9; (with_reducible refine (HK2.out _).mono ?_); rintro e w4 ⟨rfl, rfl⟩))
  go_ret
  exact ⟨rfl, HB1.out.trans (HB3.out.mono HB1.out.size)⟩

end Go.Proofs.YtejpakagbojaiaaDoor
