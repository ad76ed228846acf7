/- Events: GreatEvent; values and events that came in. -/
import Derived.Test.YtppgecbjdkfohaaEFe
import Derived.ProofKit
import Derived.OpenShut
import Derived.ShutString
import Derived.ChangeOld
import Derived.Deep.Strs
import Derived.Lib.SmallJoins
namespace Go.Proofs.Ytppgecbjdkfohaa
open Go.ChangeShapes Go.WideShapes Go.ChangeAt Go.RowKit Go.Lib Go.Deep
open Go.ChangeMaps (open_string shut_string)

theorem eown_ : ownKnob Try.prog.godebug = none := by kernel_rfl
theorem elaidOut : laidOutB Try.prog = true := by kernel_rfl

instance : Inhabited VIn := ⟨(0, 0, .empty)⟩

section
variable {H : Type} {enc : TypeId × Value → H} {w : World} {base : Nat} {spare : Nat → Bool} {held : Bool}

set_option maxRecDepth 100000 in
/-- Values that came in. -/
theorem open_vals {fuel : Nat} {a : Option Addr} {len cap : Nat} {x : DataW H × List MemPlace} (h : DataW.trod enc Try.prog w base spare held fuel 23 [.slice a len cap] = some x) :
    ∃ vs : List VIn, len = vs.length ∧ vs.length ≤ maxLen ∧ VRow w a vs := by
  rcases open_slice Try.underlying23 h with ⟨hcs, _⟩ | ⟨A, l, c, m, n, D, Pl, hcs, _, hl, hm, hmm, _, hx⟩
  · simp at hcs
    obtain ⟨rfl, rfl, rfl⟩ := hcs
    exact ⟨[], rfl, Nat.zero_le _, fun j s hj => by simp at hj⟩
  · simp at hcs
    obtain ⟨rfl, rfl, rfl⟩ := hcs
    have hlm : len ≤ m := by rw [hmm]; split <;> omega
    have c3 : Try.prog.cellsOf 52 = 3 := by kernel_rfl
    have hall : ∀ i, i < len → ∃ q : VIn, w.cell? (A.add (i * 3)) = some (.int .i64 q.1) ∧ w.cell? (efld A 3 i 1) = some (.int .i64 q.2.1) ∧ w.cell? (efld A 3 i 2) = some (.string q.2.2) ∧ q.2.2.size ≤ maxLen := fun i hi => by
      obtain ⟨cs', h1, h2⟩ := hx i (by omega)
      rw [c3] at h1
      obtain ⟨_, hlen, hcell⟩ := World.cells?_some h1
      obtain ⟨xs, k, hk, hxy, _, hxl, hf⟩ := DataW.trod_struct Try.underlying52 h2
      match xs, hxl, cs', hlen with
      | [y0, y1, y2], _, [v0, v1, v2], _ =>
        have k0 : Try.prog.cellsOf 3 = 1 := by kernel_rfl
        have k1 : Try.prog.cellsOf 2 = 1 := by kernel_rfl
        have k2 : Try.prog.cellsOf 9 = 1 := by kernel_rfl
        have g0 := hf 0 _ rfl
        have g1 := hf 1 _ rfl
        have g2 := hf 2 _ rfl
        simp [k0] at g0
        simp [k1] at g1
        simp [k2] at g2
        have e0 : w.cell? (A.add (i * 3)) = some v0 := hcell 0 (by omega)
        have e1 : w.cell? (efld A 3 i 1) = some v1 := hcell 1 (by omega)
        have e2 : w.cell? (efld A 3 i 2) = some v2 := hcell 2 (by omega)
        obtain ⟨n0, hv0, _, wf0⟩ := DataW.trod_int Try.underlying3 g0
        obtain ⟨n1, hv1, _, wf1⟩ := DataW.trod_int Try.underlying2 g1
        obtain ⟨s2, hv2, _, hs2⟩ := DataW.trod_string Try.underlying9 g2
        simp at hv0 hv1 hv2
        subst hv0 hv1 hv2
        exact ⟨(n0, n1, s2), e0, e1, e2, hs2⟩
    obtain ⟨q, hq⟩ := choose_lt hall
    refine ⟨(List.range len).map q, by simp, by simp; omega, fun j o hj => ⟨A, rfl, ?_⟩⟩
    obtain ⟨hjl, rfl⟩ := List.getElem?_eq_some_iff.1 hj
    simp at hjl ⊢
    exact hq j hjl

set_option maxRecDepth 100000 in
/-- An event that came in. -/
theorem open_event {b0 : Nat} {v : Value} {d : DataW H} {p : List MemPlace} (hv : Value.okWide Try.prog w .any b0 25 v) (h : DataW.Trod enc Try.prog w base spare held 25 v d p) :
    ∃ (t dp s : Int) (n : ByteArray) (a : Option Addr) (c : Nat) (vs : List VIn), v = evV t dp s n (.slice a vs.length c) ∧ n.size ≤ maxLen ∧ vs.length ≤ maxLen ∧ VRow w a vs := by
  obtain ⟨cs, rfl, hsz⟩ := okWide_struct Try.underlying25 hv
  obtain ⟨fuel, hf⟩ := h
  obtain ⟨xs, k, hk, hxy, _, hxl, hF⟩ := DataW.trod_struct Try.underlying25 hf
  have c5 : Try.prog.cellsOf 25 = 5 := by kernel_rfl
  obtain ⟨cl⟩ := cs
  rw [c5] at hsz
  simp at hsz
  match xs, hxl, cl, hsz with
  | [y0, y1, y2, y3, y4], _, [v0, v1, v2, v3, v4], _ =>
    have k0 : Try.prog.cellsOf 2 = 1 := by kernel_rfl
    have k1 : Try.prog.cellsOf 3 = 1 := by kernel_rfl
    have k3 : Try.prog.cellsOf 9 = 1 := by kernel_rfl
    have k4 : Try.prog.cellsOf 23 = 1 := by kernel_rfl
    have g0 := hF 0 _ rfl
    have g1 := hF 1 _ rfl
    have g2 := hF 2 _ rfl
    have g3 := hF 3 _ rfl
    have g4 := hF 4 _ rfl
    simp [k0, Value.cells] at g0
    simp [k1, Value.cells] at g1
    simp [k0, Value.cells] at g2
    simp [k3, Value.cells] at g3
    simp [k4, Value.cells] at g4
    obtain ⟨n0, hv0, _, _⟩ := DataW.trod_int Try.underlying2 g0
    obtain ⟨n1, hv1, _, _⟩ := DataW.trod_int Try.underlying3 g1
    obtain ⟨n2, hv2, _, _⟩ := DataW.trod_int Try.underlying2 g2
    obtain ⟨s3, hv3, _, hs3⟩ := DataW.trod_string Try.underlying9 g3
    simp at hv0 hv1 hv2 hv3
    subst hv0 hv1 hv2 hv3
    obtain ⟨a4, l4, c4, rfl⟩ : ∃ a l c, v4 = .slice a l c := by
      rcases DataW.trod_slice Try.underlying23 g4 with ⟨h, _⟩ | ⟨a, l, c, _, _, _, _, h, _⟩
      · simp at h; exact ⟨_, _, _, h⟩
      · simp at h; exact ⟨_, _, _, h⟩
    obtain ⟨vs, rfl, hl, hr⟩ := open_vals g4
    exact ⟨n0, n1, n2, s3, a4, c4, vs, rfl, hs3, hl, hr⟩
end

/-- What GreatEvent answers: some truth. -/
def GreatP (w : World) (e : Ending) (w' : World) : Prop := ∃ g : Bool, e = .returned (.bool g) ∧ Below w.heap.size w w'

set_option maxHeartbeats 2000000 in
set_option maxRecDepth 100000 in
theorem greatE_calls (t d s : Int) (n : ByteArray) (a : Option Addr) (c : Nat) (vs : List VIn) (w : World) (_hn : n.size ≤ maxLen) (hv : VRow w a vs) (hl : vs.length ≤ maxLen) :
    Calls Try.prog 16 #[evV t d s n (.slice a vs.length c)] w (GreatP w) := by
  have hb0 : Below w.heap.size w (w.alloc (.cells #[.int .i64 t, .int .i64 d, .int .i64 s, .string n, .slice a vs.length c] 25)) := (Below.refl _ _).alloc (Nat.le_refl _) _
  have HV := Lib.hid (hv.below hb0)
  obtain ⟨l, hll⟩ : ∃ l, vs.length = l := ⟨_, rfl⟩
  have Hl := Lib.hid hll
  rw [hll] at hl hb0 HV ⊢
  have HB0 := Lib.hid hb0
  unfold maxLen at hl
  clear hv hll hb0
  go_enter Try.func16, Try.ntmps16
  go_wp2
  go_loop [3, 4] (fun x i => ∃ (k : Nat) (m : Int), i = .int .i64 k ∧ k ≤ l ∧ x = .int .i64 m) (fun _ i => l - (intOf i).toNat)
  case atStart => exact ⟨0, _, rfl, Nat.zero_le _, rfl⟩
  case round =>
    obtain ⟨k, m, rfl, hk, rfl⟩ := hrel
    by_cases hlt : k < l
    · by_cases hm : m < 9000
      · obtain ⟨x, hx⟩ : ∃ x, vs[k]? = some x := ⟨_, List.getElem?_eq_getElem (by rw [Hl.out]; exact hlt)⟩
        obtain ⟨A, rfl, c0, c1, c2, hs⟩ := HV.out k x hx
        obtain ⟨k1, n1, s1⟩ := x
        dsimp only at c0 c1 c2 hs
        unfold efld at c1 c2
        have hd : decide (m < 9000) = true := by simpa using hm
        clear hx
        go_wp2
        go_round
        case rel => exact ⟨k + 1, _, by go_num, by omega, rfl⟩
        case measure => simp [intOf]; omega
      · have hd : decide (m < 9000) = false := by simpa using hm
        go_wp2
        go_ret
        exact ⟨_, rfl, HB0.out⟩
    · go_wp2
      go_ret
      exact ⟨_, rfl, HB0.out⟩

end Go.Proofs.Ytppgecbjdkfohaa
