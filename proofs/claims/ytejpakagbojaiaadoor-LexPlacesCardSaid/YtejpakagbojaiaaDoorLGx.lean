/- The library's variables are in memory as the row lists them. -/
import Derived.Test.YtejpakagbojaiaaDoorL1x
import Derived.Test.YtejpakagbojaiaaDoorTie
import Derived.Test.YtejpakagbojaiaaDoorCards
import Derived.ProofKit
import Derived.LaidMore
import Derived.LaidLaws
import Derived.OpenShut
import Derived.ShutString
import Derived.ChangeOld
import Derived.Stop.Joined
import Derived.Lib.SmallJoins
import Derived.SizedLaws
import Derived.SevenTiedAt
namespace Go.Proofs.YtejpakagbojaiaaDoor
open Go.ChangeShapes Go.WideShapes Go.ChangeAt Go.RowKit Go.Lib Go.Joins

theorem xown_ : ownKnob Tryd.prog.godebug = none := by kernel_rfl
theorem xlaidOut : laidOutB Tryd.prog = true := by kernel_rfl
theorem xtSyn : (Tryd.prog.globals[0]?).map (·.type) = some 42 := by kernel_rfl
theorem xtRan : (Tryd.prog.globals[1]?).map (·.type) = some 42 := by kernel_rfl

def laidX {H : Type} : List (String × DataW H) := [("math/bits.deBruijn32tab", Rows.laid_math_bits_deBruijn32tab), ("math/bits.deBruijn64tab", Rows.laid_math_bits_deBruijn64tab), ("internal/strconv.uint64pow10", Rows.laid_internal_strconv_uint64pow10), ("strconv.ErrRange", Rows.laid_strconv_ErrRange), ("strconv.ErrSyntax", Rows.laid_strconv_ErrSyntax)]

set_option maxRecDepth 100000 in
/-- The door's own heap meets the condition. -/
theorem xdoor_met (os : Os) (args : Array Value) : laidMetH Tryd.prog laidX ((World.doorLaid Tryd.prog 62 os).forCall (fun _ _ => 0) ⟨#[], args, []⟩).memory :=
  laidMetH_of_parts3 (fuel := 8) (laidMet_of_run' 8 (by kernel_rfl) (by kernel_rfl)) (by kernel_rfl) (by kernel_rfl)

set_option maxRecDepth 100000 in
theorem vars_of_laid {W : World} (h : laidMetH Tryd.prog laidX W) : XVars W := by
  rw [MakeChecks.laidMetH_plain _ _ _ (by kernel_rfl)] at h
  obtain ⟨ps, ⟨g0, t0, cs0, f0, p0, q0, hg0, ht0, hv0, hd0, ⟨g1, t1, cs1, f1, p1, q1, hg1, ht1, hv1, hd1, ⟨g2, t2, cs2, f2, p2, q2, hg2, ht2, hv2, hd2, ⟨g3, t3, cs3, f3, p3, q3, hg3, ht3, hv3, hd3, ⟨g4, t4, cs4, f4, p4, q4, hg4, ht4, hv4, hd4, _, _⟩, _⟩, _⟩, _⟩, _⟩, _⟩ := h
  obtain rfl := Option.some.inj (xgRan.symm.trans hg3)
  obtain rfl := Option.some.inj (xgSyn.symm.trans hg4)
  obtain rfl := Option.some.inj (xtRan.symm.trans ht3)
  obtain rfl := Option.some.inj (xtSyn.symm.trans ht4)
  obtain ⟨l3⟩ := cs3
  obtain ⟨l4⟩ := cs4
  obtain ⟨_, u3, v3, e3, _, _⟩ := iface_of_trod Tryd.underlying42 hd3
  obtain ⟨_, u4, v4, e4, _, _⟩ := iface_of_trod Tryd.underlying42 hd4
  have e3' : l3 = [.iface u3 v3] := e3
  have e4' : l4 = [.iface u4 v4] := e4
  subst e3' e4'
  exact ⟨⟨u4, v4, hv4⟩, ⟨u3, v3, hv3⟩⟩

end Go.Proofs.YtejpakagbojaiaaDoor
