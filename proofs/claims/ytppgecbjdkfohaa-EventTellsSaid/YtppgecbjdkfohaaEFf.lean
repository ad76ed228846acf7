/- Schemas that came in, with what the form says of their sizes. -/
import Derived.Test.YtppgecbjdkfohaaESe
import Derived.SizedLaws
namespace Go.Proofs.Ytppgecbjdkfohaa
open Go.ChangeShapes Go.WideShapes Go.ChangeAt Go.RowKit Go.Lib Go.Deep
open Go.ChangeMaps (open_string shut_string)

instance : Inhabited SIn := ⟨⟨.empty, none, 0, []⟩⟩

section
variable {H : Type} {enc : TypeId × Value → H} {w : World} {base : Nat} {spare : Nat → Bool} {held : Bool}

theorem weightsAll_mem {P : Program} {e : TypeId} : ∀ {l : List (DataW H)} {d : DataW H} {n : Nat}, d ∈ l → n ∈ d.weights P e → n ∈ DataW.weightsAll P e l
  | [], _, _, h, _ => by cases h
  | x :: l, d, n, h, hn => by
    simp only [DataW.weightsAll, List.mem_append]
    rcases List.mem_cons.1 h with rfl | h
    · exact .inl hn
    · exact .inr (weightsAll_mem h hn)

/-- Fields that came in, no more than the form lets be. -/
theorem open_fieldsW {fuel : Nat} {a : Option Addr} {len cap : Nat} {x : DataW H × List MemPlace} (h : DataW.trod enc Try.prog w base spare held fuel 29 [.slice a len cap] = some x) (hw : ∀ q ∈ x.1.weights Try.prog 29, q ≤ reachBytes) :
    ∃ fs : List FIn, len = fs.length ∧ fs.length ≤ maxLen ∧ FRow w a fs ∧ fs.length * 24 ≤ 140737488355328 := by
  obtain ⟨fs, rfl, hl, hr⟩ := open_fields h
  refine ⟨fs, rfl, hl, hr, ?_⟩
  rcases open_slice Try.underlying29 h with ⟨hcs, _⟩ | ⟨A, l, c, m, n, D, Pl, hcs, _, _, _, hmm, hx, _⟩
  · simp at hcs
    rw [hcs.2.1]; decide
  · simp at hcs
    obtain ⟨rfl, rfl, rfl⟩ := hcs
    have hby : Try.prog.bytesOf 55 = 24 := by kernel_rfl
    have h1 := hw ((fs.length + (m - fs.length)) * 24) (by
      rw [hx]
      simp only [DataW.weights, Try.underlying29, hby, List.length_map, List.length_range, List.mem_cons, true_or])
    have h2 := reachBytes_lt
    have h3 : fs.length * 24 ≤ (fs.length + (m - fs.length)) * 24 := Nat.mul_le_mul_right _ (by omega)
    have h4 : (2 : Nat) ^ 47 = 140737488355328 := by decide
    omega

set_option maxRecDepth 100000 in
/-- Schemas that came in. -/
theorem open_schemas {fuel : Nat} {a : Option Addr} {len cap : Nat} {x : DataW H × List MemPlace} (h : DataW.trod enc Try.prog w base spare held fuel 22 [.slice a len cap] = some x) (hw : ∀ q ∈ x.1.weights Try.prog 22, q ≤ reachBytes) :
    ∃ xs : List SIn, len = xs.length ∧ xs.length ≤ maxLen ∧ SRow w a xs ∧ ∀ x ∈ xs, x.fs.length * 24 ≤ 140737488355328 := by
  rcases open_slice Try.underlying22 h with ⟨hcs, _⟩ | ⟨A, l, c, m, n, D, Pl, hcs, _, hl, hm, hmm, hxw, hx⟩
  · simp at hcs
    obtain ⟨rfl, rfl, rfl⟩ := hcs
    exact ⟨[], rfl, Nat.zero_le _, (fun j s hj => by simp at hj), fun x hx => by cases hx⟩
  · simp at hcs
    obtain ⟨rfl, rfl, rfl⟩ := hcs
    have hlm : len ≤ m := by rw [hmm]; split <;> omega
    have c2 : Try.prog.cellsOf 31 = 2 := by kernel_rfl
    have hall : ∀ i, i < len → ∃ q : SIn, (w.cell? (A.add (i * 2)) = some (.string q.name) ∧ w.cell? (efld A 2 i 1) = some (.slice q.fa q.fs.length q.fc) ∧ FRow w q.fa q.fs ∧ q.fs.length ≤ maxLen ∧ q.name.size ≤ maxLen) ∧ q.fs.length * 24 ≤ 140737488355328 := fun i hi => by
      obtain ⟨cs', h1, h2⟩ := hx i (by omega)
      rw [c2] at h1
      obtain ⟨_, hlen, hcell⟩ := World.cells?_some h1
      obtain ⟨xs, k, hk, hxy, _, hxl, hf⟩ := DataW.trod_struct Try.underlying31 h2
      match xs, hxl, cs', hlen with
      | [y0, y1], _, [v0, v1], _ =>
        have k0 : Try.prog.cellsOf 9 = 1 := by kernel_rfl
        have k1 : Try.prog.cellsOf 29 = 1 := by kernel_rfl
        have g0 := hf 0 _ rfl
        have g1 := hf 1 _ rfl
        simp [k0] at g0
        simp [k1] at g1
        have e0 : w.cell? (A.add (i * 2)) = some v0 := hcell 0 (by omega)
        have e1 : w.cell? (efld A 2 i 1) = some v1 := hcell 1 (by omega)
        obtain ⟨s0, hv0, _, hs0⟩ := DataW.trod_string Try.underlying9 g0
        simp at hv0
        subst hv0
        obtain ⟨a1, l1, c1, rfl⟩ : ∃ a l c, v1 = .slice a l c := by
          rcases DataW.trod_slice Try.underlying29 g1 with ⟨h, _⟩ | ⟨a, l, c, _, _, _, _, h, _⟩
          · simp at h; exact ⟨_, _, _, h⟩
          · simp at h; exact ⟨_, _, _, h⟩
        have hwi : ∀ q ∈ y1.1.weights Try.prog 29, q ≤ reachBytes := fun q hq => by
          refine hw q ?_
          rw [hxw]
          simp only [DataW.weights, Try.underlying22, List.mem_cons, List.mem_append]
          refine .inr (.inl (weightsAll_mem (d := D i) (List.mem_map.2 ⟨i, List.mem_range.2 hi, rfl⟩) ?_))
          have hD : D i = .agg [y0.1, y1.1] := congrArg Prod.fst hxy
          rw [hD]
          simp only [DataW.weights, Try.underlying31]
          exact DataW.weights_mem_each (j := 1) (t := 29) (d := y1.1) (by kernel_rfl) rfl q hq
        obtain ⟨fs, rfl, hl1, hr1, hb1⟩ := open_fieldsW g1 hwi
        exact ⟨⟨s0, a1, c1, fs⟩, ⟨e0, e1, hr1, hl1, hs0⟩, hb1⟩
    obtain ⟨q, hq⟩ := choose_lt hall
    refine ⟨(List.range len).map q, by simp, by simp; omega, fun j o hj => ⟨A, rfl, ?_⟩, fun x hx => ?_⟩
    · obtain ⟨hjl, rfl⟩ := List.getElem?_eq_some_iff.1 hj
      simp at hjl ⊢
      exact (hq j hjl).1
    · obtain ⟨i, hi, rfl⟩ := List.mem_map.1 hx
      exact (hq i (List.mem_range.1 hi)).2
end

end Go.Proofs.Ytppgecbjdkfohaa
