/- The table of comparisons is in memory as the row lists it. -/
import Derived.Test.YtfllemgoldicpaaDoorVA
import Derived.Test.YtfllemgoldicpaaDoorTie
import Derived.Test.YtfllemgoldicpaaDoorCards
import Derived.ProofKit
import Derived.LaidMore
import Derived.OpenShut
import Derived.ShutString
import Derived.ChangeOld
import Derived.Stop.Joined
import Derived.Lib.SmallJoins
import Derived.Lib.LaidTab
import Derived.SizedLaws
import Derived.SevenTiedAt
namespace Go.Proofs.YtfllemgoldicpaaDoor
open Go.ChangeShapes Go.WideShapes Go.ChangeAt Go.RowKit Go.Lib Go.Joins

theorem vown_ : ownKnob Tryd.prog.godebug = none := by kernel_rfl
theorem vlaidOut : laidOutB Tryd.prog = true := by kernel_rfl
theorem gHolds : Tryd.prog.globalNamed "augury/value.holds" = some 0 := by kernel_rfl
theorem tHolds : (Tryd.prog.globals[0]?).map (·.type) = some 47 := by kernel_rfl

def laidV {H : Type} : List (String × DataW H) := [("augury/value.holds", Rows.laid_augury_value_holds)]

/-- The door's own heap meets the condition. -/
theorem vdoor_met (os : Os) (args : Array Value) : laidMetH Tryd.prog laidV ((World.doorLaid Tryd.prog 20 os).forCall (fun _ _ => 0) ⟨#[], args, []⟩).memory :=
  laidMetH_of_parts3 (fuel := 8) (laidMet_of_run' 8 (by kernel_rfl) (by kernel_rfl)) (by kernel_rfl) (by kernel_rfl)

section
variable {H : Type} {enc : TypeId × Value → H} {P : Program} {w : World} {base : Nat} {sp : Nat → Bool} {held : Bool}

theorem array_at {fuel : Nat} {t e : TypeId} {n m : Nat} {cs : List Value} {ds : List (DataW H)} {p : List MemPlace} (ht : P.underlying t = some (.array n e)) (hce : P.cellsOf e = m)
    (h : DataW.trod enc P w base sp held fuel t cs = some (.agg ds, p)) : ∀ i d, ds[i]? = some d → ∃ f q, DataW.trod enc P w base sp held f e ((cs.drop (i * m)).take m) = some (d, q) := by
  obtain ⟨xs, f, _, hx, hlen, hn, hel⟩ := DataW.trod_array ht h
  intro i d hd
  have hds : ds = xs.map (·.1) := by
    have := congrArg Prod.fst hx
    simpa using this
  rw [hds, List.getElem?_map] at hd
  obtain ⟨x, hx1, rfl⟩ := Option.map_eq_some_iff.1 hd
  have hin : i < n := by rw [← hn]; exact (List.getElem?_eq_some_iff.1 hx1).1
  have h1 := hel i hin
  rw [hce] at h1
  refine ⟨f, x.2, ?_⟩
  rw [h1, hx1]

theorem bool_at {fuel : Nat} {t : TypeId} {cs : List Value} {b : Bool} {p : List MemPlace} (ht : P.underlying t = some .bool) (h : DataW.trod enc P w base sp held fuel t cs = some (.lit (.bool b), p)) : cs = [.bool b] := by
  obtain ⟨b', rfl, hx⟩ := DataW.trod_bool ht h
  simp only [Prod.mk.injEq, DataW.lit.injEq, Lit.bool.injEq] at hx
  rw [hx.1]
end

theorem holds_of_laid {W : World} (h : laidMetH Tryd.prog laidV W) : HoldsTab W := by
  rw [MakeChecks.laidMetH_plain _ _ _ (by kernel_rfl)] at h
  obtain ⟨ps, ⟨g0, t0, cs0, f0, p0, q0, hg0, ht0, hv0, hd0, _, _⟩, _⟩ := h
  obtain rfl := Option.some.inj (gHolds.symm.trans hg0)
  obtain rfl := Option.some.inj (tHolds.symm.trans ht0)
  have c3 : Tryd.prog.cellsOf 46 = 3 := by kernel_rfl
  have c1 : Tryd.prog.cellsOf 4 = 1 := by kernel_rfl
  have key : ∀ o row, ((match (Rows.laid_augury_value_holds (H := Unit)) with | .agg l => l | _ => [])[o]? = some (.agg row)) → ∀ i b, row[i]? = some (.lit (.bool b)) → i < 3 → W.cell? ⟨0, o * 3 + i, none⟩ = some (.bool b) := by
    intro o row ho i b hi h3
    obtain ⟨f, q, h1⟩ := array_at Tryd.underlying47 c3 hd0 o _ ho
    obtain ⟨f', q', h2⟩ := array_at Tryd.underlying46 c1 h1 i _ hi
    have h4 := bool_at Tryd.underlying4 h2
    have h5 := World.var?_cell hg0 hv0 (o * 3 + i)
    rw [h5]
    have h6 := congrArg (·[0]?) h4
    simp only [Nat.mul_one, List.getElem?_take, List.getElem?_drop, List.getElem?_cons_zero] at h6
    rw [if_pos (by omega)] at h6
    have h7 : i < 3 ∧ cs0[o * 3 + i]? = some (Value.bool b) := by simpa using h6
    simpa using h7.2
  intro o i h1 h2 h3
  obtain rfl | rfl | rfl | rfl | rfl | rfl : o = 1 ∨ o = 2 ∨ o = 3 ∨ o = 4 ∨ o = 5 ∨ o = 6 := by omega
  all_goals
    obtain rfl | rfl | rfl : i = 0 ∨ i = 1 ∨ i = 2 := by omega
    all_goals exact key _ _ rfl _ _ rfl (by decide)

/-- A value that came in. -/
theorem open_val {H : Type} {enc : TypeId × Value → H} {w : World} {base : Nat} {spare : Nat → Bool} {held : Bool} {b0 : Nat} {v : Value} {d : DataW H} {p : List MemPlace}
    (hv : Value.okWide Tryd.prog w .any b0 23 v) (h : DataW.Trod enc Tryd.prog w base spare held 23 v d p) :
    ∃ (k n : Int) (s : ByteArray), v = .agg #[.int .i64 k, .int .i64 n, .string s] ∧ s.size ≤ maxLen := by
  obtain ⟨v0, v1, v2, y0, y1, y2, n, rfl, _, _, t0, t1, t2⟩ := open_agg3 Tryd.underlying23 (by kernel_rfl) (by kernel_rfl) hv h
  obtain ⟨k, e0, _, _⟩ := DataW.trod_int Tryd.underlying3 t0
  obtain ⟨m, e1, _, _⟩ := DataW.trod_int Tryd.underlying2 t1
  obtain ⟨s, e2, _, hs⟩ := DataW.trod_string Tryd.underlying9 t2
  simp at e0 e1 e2
  exact ⟨k, m, s, by rw [e0, e1, e2], hs⟩

end Go.Proofs.YtfllemgoldicpaaDoor
