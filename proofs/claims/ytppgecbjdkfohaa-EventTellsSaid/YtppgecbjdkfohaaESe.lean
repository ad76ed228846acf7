/- Events: schemas, events with their capacities, values that came in. -/
import Derived.Test.YtppgecbjdkfohaaEPe
import Derived.ProofKit
import Derived.OpenShut
import Derived.ShutString
namespace Go.Proofs.Ytppgecbjdkfohaa
open Go.ChangeShapes Go.WideShapes Go.ChangeAt Go.RowKit Go.Lib Go.Deep
open Go.ChangeMaps (open_string shut_string)

instance : Inhabited FIn := ⟨(.empty, 0)⟩

section
variable {H : Type} {enc : TypeId × Value → H} {w : World} {base : Nat} {spare : Nat → Bool} {held : Bool}

/-- A row of values that came in: what is said of its room. -/
theorem open_valsS {fuel : Nat} {a : Option Addr} {len cap : Nat} {x : DataW H × List MemPlace} (h : DataW.trod enc Try.prog w base spare held fuel 23 [.slice a len cap] = some x) :
    ∃ vs : List VIn, len = vs.length ∧ VSl w (.slice a vs.length cap) vs := by
  obtain ⟨vs, rfl, hl, hr⟩ := open_vals h
  refine ⟨vs, rfl, a, cap, rfl, ?_⟩
  rcases open_slice Try.underlying23 h with ⟨hcs, _⟩ | ⟨A, l, c, m, n, D, Pl, hcs, _, hl2, hm, hmm, _, hx⟩
  · simp at hcs
    obtain ⟨rfl, rfl, rfl⟩ := hcs
    exact ⟨Nat.le_refl _, Nat.zero_le _, fun _ => rfl, hr⟩
  · simp at hcs
    obtain ⟨rfl, rfl, rfl⟩ := hcs
    exact ⟨by simpa using hl2, hm, fun e => (by cases e), hr⟩

set_option maxRecDepth 100000 in
/-- Fields that came in. -/
theorem open_fields {fuel : Nat} {a : Option Addr} {len cap : Nat} {x : DataW H × List MemPlace} (h : DataW.trod enc Try.prog w base spare held fuel 29 [.slice a len cap] = some x) :
    ∃ fs : List FIn, len = fs.length ∧ fs.length ≤ maxLen ∧ FRow w a fs := by
  rcases open_slice Try.underlying29 h with ⟨hcs, _⟩ | ⟨A, l, c, m, n, D, Pl, hcs, _, hl, hm, hmm, _, hx⟩
  · simp at hcs
    obtain ⟨rfl, rfl, rfl⟩ := hcs
    exact ⟨[], rfl, Nat.zero_le _, fun j s hj => by simp at hj⟩
  · simp at hcs
    obtain ⟨rfl, rfl, rfl⟩ := hcs
    have hlm : len ≤ m := by rw [hmm]; split <;> omega
    have c2 : Try.prog.cellsOf 55 = 2 := by kernel_rfl
    have hall : ∀ i, i < len → ∃ q : FIn, w.cell? (A.add (i * 2)) = some (.string q.1) ∧ w.cell? (efld A 2 i 1) = some (.int .i64 q.2) ∧ q.1.size ≤ maxLen := fun i hi => by
      obtain ⟨cs', h1, h2⟩ := hx i (by omega)
      rw [c2] at h1
      obtain ⟨_, hlen, hcell⟩ := World.cells?_some h1
      obtain ⟨xs, k, hk, hxy, _, hxl, hf⟩ := DataW.trod_struct Try.underlying55 h2
      match xs, hxl, cs', hlen with
      | [y0, y1], _, [v0, v1], _ =>
        have k0 : Try.prog.cellsOf 9 = 1 := by kernel_rfl
        have k1 : Try.prog.cellsOf 3 = 1 := by kernel_rfl
        have g0 := hf 0 _ rfl
        have g1 := hf 1 _ rfl
        simp [k0] at g0
        simp [k1] at g1
        have e0 : w.cell? (A.add (i * 2)) = some v0 := hcell 0 (by omega)
        have e1 : w.cell? (efld A 2 i 1) = some v1 := hcell 1 (by omega)
        obtain ⟨s0, hv0, _, hs0⟩ := DataW.trod_string Try.underlying9 g0
        obtain ⟨n1, hv1, _, wf1⟩ := DataW.trod_int Try.underlying3 g1
        simp at hv0 hv1
        subst hv0 hv1
        exact ⟨(s0, n1), e0, e1, hs0⟩
    obtain ⟨q, hq⟩ := choose_lt hall
    refine ⟨(List.range len).map q, by simp, by simp; omega, fun j o hj => ⟨A, rfl, ?_⟩⟩
    obtain ⟨hjl, rfl⟩ := List.getElem?_eq_some_iff.1 hj
    simp at hjl ⊢
    exact hq j hjl

set_option maxRecDepth 100000 in
/-- A schema that came in. -/
theorem open_schema {b0 : Nat} {v : Value} {d : DataW H} {p : List MemPlace} (hv : Value.okWide Try.prog w .any b0 31 v) (h : DataW.Trod enc Try.prog w base spare held 31 v d p) :
    ∃ (n : ByteArray) (a : Option Addr) (c : Nat) (fs : List FIn), v = .agg #[.string n, .slice a fs.length c] ∧ n.size ≤ maxLen ∧ fs.length ≤ maxLen ∧ FRow w a fs := by
  obtain ⟨cs, rfl, hsz⟩ := okWide_struct Try.underlying31 hv
  obtain ⟨fuel, hf⟩ := h
  obtain ⟨xs, k, hk, hxy, _, hxl, hF⟩ := DataW.trod_struct Try.underlying31 hf
  have c2 : Try.prog.cellsOf 31 = 2 := by kernel_rfl
  obtain ⟨cl⟩ := cs
  rw [c2] at hsz
  simp at hsz
  match xs, hxl, cl, hsz with
  | [y0, y1], _, [v0, v1], _ =>
    have k0 : Try.prog.cellsOf 9 = 1 := by kernel_rfl
    have k1 : Try.prog.cellsOf 29 = 1 := by kernel_rfl
    have g0 := hF 0 _ rfl
    have g1 := hF 1 _ rfl
    simp [k0, Value.cells] at g0
    simp [k1, Value.cells] at g1
    obtain ⟨s0, hv0, _, hs0⟩ := DataW.trod_string Try.underlying9 g0
    simp at hv0
    subst hv0
    obtain ⟨a1, l1, c1, rfl⟩ : ∃ a l c, v1 = .slice a l c := by
      rcases DataW.trod_slice Try.underlying29 g1 with ⟨h, _⟩ | ⟨a, l, c, _, _, _, _, h, _⟩
      · simp at h; exact ⟨_, _, _, h⟩
      · simp at h; exact ⟨_, _, _, h⟩
    obtain ⟨fs, rfl, hl, hr⟩ := open_fields g1
    exact ⟨s0, a1, c1, fs, rfl, hs0, hl, hr⟩

set_option maxRecDepth 100000 in
/-- An event that came in, with what is said of its row's room. -/
theorem open_eventS {b0 : Nat} {v : Value} {d : DataW H} {p : List MemPlace} (hv : Value.okWide Try.prog w .any b0 25 v) (h : DataW.Trod enc Try.prog w base spare held 25 v d p) :
    ∃ (t dp s : Int) (n : ByteArray) (a : Option Addr) (c : Nat) (vs : List VIn), v = evV t dp s n (.slice a vs.length c) ∧ n.size ≤ maxLen ∧ vs.length ≤ maxLen ∧ VSl w (.slice a vs.length c) vs := by
  obtain ⟨cs, rfl, hsz⟩ := okWide_struct Try.underlying25 hv
  obtain ⟨fuel, hf⟩ := h
  obtain ⟨xs, k, hk, hxy, _, hxl, hF⟩ := DataW.trod_struct Try.underlying25 hf
  have c5 : Try.prog.cellsOf 25 = 5 := by kernel_rfl
  obtain ⟨cl⟩ := cs
  rw [c5] at hsz
  simp at hsz
  match xs, hxl, cl, hsz with
  | [y0, y1, y2, y3, y4], _, [v0, v1, v2, v3, v4], _ =>
    have k0 : Try.prog.cellsOf 2 = 1 := by kernel_rfl
    have k1 : Try.prog.cellsOf 3 = 1 := by kernel_rfl
    have k3 : Try.prog.cellsOf 9 = 1 := by kernel_rfl
    have k4 : Try.prog.cellsOf 23 = 1 := by kernel_rfl
    have g0 := hF 0 _ rfl
    have g1 := hF 1 _ rfl
    have g2 := hF 2 _ rfl
    have g3 := hF 3 _ rfl
    have g4 := hF 4 _ rfl
    simp [k0, Value.cells] at g0
    simp [k1, Value.cells] at g1
    simp [k0, Value.cells] at g2
    simp [k3, Value.cells] at g3
    simp [k4, Value.cells] at g4
    obtain ⟨n0, hv0, _, _⟩ := DataW.trod_int Try.underlying2 g0
    obtain ⟨n1, hv1, _, _⟩ := DataW.trod_int Try.underlying3 g1
    obtain ⟨n2, hv2, _, _⟩ := DataW.trod_int Try.underlying2 g2
    obtain ⟨s3, hv3, _, hs3⟩ := DataW.trod_string Try.underlying9 g3
    simp at hv0 hv1 hv2 hv3
    subst hv0 hv1 hv2 hv3
    obtain ⟨a4, l4, c4, rfl⟩ : ∃ a l c, v4 = .slice a l c := by
      rcases DataW.trod_slice Try.underlying23 g4 with ⟨h, _⟩ | ⟨a, l, c, _, _, _, _, h, _⟩
      · simp at h; exact ⟨_, _, _, h⟩
      · simp at h; exact ⟨_, _, _, h⟩
    obtain ⟨vs, rfl, hr⟩ := open_valsS g4
    have hl : vs.length ≤ maxLen := by obtain ⟨a', c', e, h1, h2, _⟩ := hr; injection e with _ _ e3; omega
    exact ⟨n0, n1, n2, s3, a4, c4, vs, rfl, hs3, hl, hr⟩

set_option maxRecDepth 100000 in
/-- A value that came in. -/
theorem open_valP {b0 : Nat} {v : Value} {d : DataW H} {p : List MemPlace} (hv : Value.okWide Try.prog w .any b0 52 v) (h : DataW.Trod enc Try.prog w base spare held 52 v d p) :
    ∃ (k n : Int) (s : ByteArray), v = .agg #[.int .i64 k, .int .i64 n, .string s] ∧ s.size ≤ maxLen := by
  obtain ⟨cs, rfl, hsz⟩ := okWide_struct Try.underlying52 hv
  obtain ⟨fuel, hf⟩ := h
  obtain ⟨xs, k, hk, hxy, _, hxl, hF⟩ := DataW.trod_struct Try.underlying52 hf
  have c3 : Try.prog.cellsOf 52 = 3 := by kernel_rfl
  obtain ⟨cl⟩ := cs
  rw [c3] at hsz
  simp at hsz
  match xs, hxl, cl, hsz with
  | [y0, y1, y2], _, [v0, v1, v2], _ =>
    have k0 : Try.prog.cellsOf 3 = 1 := by kernel_rfl
    have k1 : Try.prog.cellsOf 2 = 1 := by kernel_rfl
    have k2 : Try.prog.cellsOf 9 = 1 := by kernel_rfl
    have g0 := hF 0 _ rfl
    have g1 := hF 1 _ rfl
    have g2 := hF 2 _ rfl
    simp [k0, Value.cells] at g0
    simp [k1, Value.cells] at g1
    simp [k2, Value.cells] at g2
    obtain ⟨n0, hv0, _, _⟩ := DataW.trod_int Try.underlying3 g0
    obtain ⟨n1, hv1, _, _⟩ := DataW.trod_int Try.underlying2 g1
    obtain ⟨s2, hv2, _, hs2⟩ := DataW.trod_string Try.underlying9 g2
    simp at hv0 hv1 hv2
    subst hv0 hv1 hv2
    exact ⟨n0, n1, s2, rfl, hs2⟩
end

end Go.Proofs.Ytppgecbjdkfohaa
