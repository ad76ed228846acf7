/- DeviceFuse holds: for every number and list of calls handed in the call returns true, and each argument reads behind it as it did. -/
import Derived.Test.YtgkhnimdlkdaaaaDN
import Derived.Test.YtgkhnimdlkdaaaaDK
namespace Go.Proofs.Ytgkhnimdlkdaaaa
open Go.ChangeShapes Go.WideShapes Go.ChangeAt Go.RowKit Go.Lib Go.Deep
open Go.ChangeMaps (open_string shut_string)

section
variable {H : Type} {enc : TypeId × Value → H} {w : World} {base : Nat} {spare : Nat → Bool} {held : Bool}

/-- Bytes that came in. -/
theorem open_bytes {fuel : Nat} {a : Option Addr} {len cap : Nat} {x : DataW H × List MemPlace} (h : DataW.trod enc Try.prog w base spare held fuel 31 [.slice a len cap] = some x) :
    ∃ bs : List UInt8, len = bs.length ∧ bs.length ≤ maxLen ∧ ∀ (w1 : World), Below w.heap.size w w1 → ∀ own : Owner, (∀ b, b < w.heap.size → own b = none) → BArg w1 own (.slice a len cap) bs := by
  rcases open_slice1 Try.underlying31 (by kernel_rfl) h with ⟨hcs, _⟩ | ⟨A, l, c, m, n, V, D, Pl, hcs, _, hl, hm, hmm, _, hx⟩
  · simp at hcs
    obtain ⟨rfl, rfl, rfl⟩ := hcs
    exact ⟨[], rfl, Nat.zero_le _, fun _ _ _ _ => Or.inl ⟨rfl, rfl⟩⟩
  · simp at hcs
    obtain ⟨rfl, rfl, rfl⟩ := hcs
    have hlm : len ≤ m := by rw [hmm]; split <;> omega
    have hall : ∀ i, i < len → ∃ q : UInt8, w.cell? (A.add i) = some (.int .u8 q.toNat) := fun i hi => by
      obtain ⟨e0, t0⟩ := hx i (by omega)
      obtain ⟨v, h4, _, h6⟩ := DataW.trod_int Try.underlying5 t0
      simp at h4
      have h7 : (0 : Int) ≤ v ∧ v ≤ 255 := by
        have h8 : (decide ((0 : Int) ≤ v) && decide (v ≤ 255)) = true := h6
        simpa using h8
      refine ⟨UInt8.ofNat v.toNat, ?_⟩
      rw [e0, h4]
      congr 2
      simp
      omega
    obtain ⟨q, hq⟩ := choose_lt hall
    refine ⟨(List.range len).map q, by simp, by simp; omega, fun w1 hb own ho => ?_⟩
    refine Or.inr ⟨A, cap, by simp, fun hne => ?_, fun j y hj => ?_⟩
    · have hl0 : 0 < len := by
        rcases Nat.eq_zero_or_pos len with e | e
        · subst e; simp at hne
        · exact e
      have h3 := World.block_lt_of_cell? _ _ (hq 0 hl0)
      rw [add_block] at h3
      exact ho _ h3
    · obtain ⟨hjl, rfl⟩ := List.getElem?_eq_some_iff.1 hj
      simp at hjl ⊢
      exact (hb.cell (World.block_lt_of_cell? _ _ (hq j hjl))).trans (hq j hjl)

instance : Inhabited OpV := ⟨⟨0, .empty, none, 0, [], 0, none, 0, []⟩⟩

set_option maxRecDepth 100000 in
/-- A list of calls that came in. -/
theorem open_ops {fuel : Nat} {a : Option Addr} {len cap : Nat} {x : DataW H × List MemPlace} (h : DataW.trod enc Try.prog w base spare held fuel 23 [.slice a len cap] = some x) :
    ∃ os : List OpV, len = os.length ∧ os.length ≤ maxLen ∧ ORow w a os := by
  rcases open_slice Try.underlying23 h with ⟨hcs, _⟩ | ⟨A, l, c, m, n, D, Pl, hcs, _, hl, hm, hmm, _, hx⟩
  · simp at hcs
    obtain ⟨rfl, rfl, rfl⟩ := hcs
    exact ⟨[], rfl, Nat.zero_le _, fun j s hj => by simp at hj⟩
  · simp at hcs
    obtain ⟨rfl, rfl, rfl⟩ := hcs
    have hlm : len ≤ m := by rw [hmm]; split <;> omega
    have c5 : Try.prog.cellsOf 34 = 5 := by kernel_rfl
    have hall : ∀ i, i < len → ∃ q : OpV, OAt w A i q := fun i hi => by
      obtain ⟨cs', h1, h2⟩ := hx i (by omega)
      rw [c5] at h1
      obtain ⟨_, hlen, hcell⟩ := World.cells?_some h1
      obtain ⟨xs, k, hk, hxy, _, hxl, hf⟩ := DataW.trod_struct Try.underlying34 h2
      match xs, hxl, cs', hlen with
      | [y0, y1, y2, y3, y4], _, [v0, v1, v2, v3, v4], _ =>
        have k0 : Try.prog.cellsOf 3 = 1 := by kernel_rfl
        have k1 : Try.prog.cellsOf 9 = 1 := by kernel_rfl
        have k2 : Try.prog.cellsOf 31 = 1 := by kernel_rfl
        have k4 : Try.prog.cellsOf 32 = 1 := by kernel_rfl
        have g0 := hf 0 _ rfl
        have g1 := hf 1 _ rfl
        have g2 := hf 2 _ rfl
        have g3 := hf 3 _ rfl
        have g4 := hf 4 _ rfl
        simp [k0] at g0
        simp [k1] at g1
        simp [k2] at g2
        simp [k0] at g3
        simp [k4] at g4
        have e0 : w.cell? (A.add (i * 5)) = some v0 := hcell 0 (by omega)
        have e1 : w.cell? (fld A 5 i 1) = some v1 := hcell 1 (by omega)
        have e2 : w.cell? (fld A 5 i 2) = some v2 := hcell 2 (by omega)
        have e3 : w.cell? (fld A 5 i 3) = some v3 := hcell 3 (by omega)
        have e4 : w.cell? (fld A 5 i 4) = some v4 := hcell 4 (by omega)
        obtain ⟨n0, hv0, _, wf0⟩ := DataW.trod_int Try.underlying3 g0
        obtain ⟨s1, hv1, _, hs1⟩ := DataW.trod_string Try.underlying9 g1
        obtain ⟨n3, hv3, _, wf3⟩ := DataW.trod_int Try.underlying3 g3
        simp at hv0 hv1 hv3
        subst hv0 hv1 hv3
        obtain ⟨a2, l2, c2, rfl⟩ : ∃ a l c, v2 = .slice a l c := by
          rcases DataW.trod_slice Try.underlying31 g2 with ⟨h, _⟩ | ⟨a, l, c, _, _, _, _, h, _⟩
          · simp at h; exact ⟨_, _, _, h⟩
          · simp at h; exact ⟨_, _, _, h⟩
        obtain ⟨a4, l4, c4, rfl⟩ : ∃ a l c, v4 = .slice a l c := by
          rcases DataW.trod_slice Try.underlying32 g4 with ⟨h, _⟩ | ⟨a, l, c, _, _, _, _, h, _⟩
          · simp at h; exact ⟨_, _, _, h⟩
          · simp at h; exact ⟨_, _, _, h⟩
        obtain ⟨bs, rfl, hbl, hb⟩ := open_bytes g2
        obtain ⟨ks, rfl, hkl, hk⟩ := open_kepts g4
        exact ⟨⟨n0, s1, a2, c2, bs, n3, a4, c4, ks⟩, e0, e1, e2, e3, e4, hs1, wf0, wf3, hbl, hkl, hb w (Below.refl _ _) _ (fun _ _ => rfl), hk w (Below.refl _ _) _ (fun _ _ => rfl)⟩
    obtain ⟨q, hq⟩ := choose_lt hall
    refine ⟨(List.range len).map q, by simp, by simp; omega, fun j o hj => ⟨A, rfl, ?_⟩⟩
    obtain ⟨hjl, rfl⟩ := List.getElem?_eq_some_iff.1 hj
    simp at hjl ⊢
    exact hq j hjl

end

namespace deviceFuse
set_option maxRecDepth 100000 in
theorem lifted (os : Os) (started : os.Started) (H : Type) (enc : TypeId × Value → H) :
    ReturnsInHanded {} Try.checked os 6 .any (Rows.deviceFuseSpec.pre6 enc Try.prog Try.f6 Rows.deviceFuseRow.domain false) (Rows.deviceFuseSpec.post enc Try.prog Try.f6 false true false false) := by
  refine returnsInHanded_of_change (C := Try.checked) own_ started (by kernel_rfl) Try.func6
    (ChangeSpec.witness6 (enc := enc) (C := Try.checked) false ⟨#[], #[.int .u8 0, .slice none 0 0], []⟩ 8 (by kernel_rfl) (by kernel_rfl) (by kernel_rfl) (by kernel_rfl)) ?_
  intro W base args ds gs before hval0 hW _ _
  have hval : ∀ (j : Nat) t v, Try.f6.params[j]? = some t → args[j]? = some v → Value.okWide Try.prog W .any base t v := hval0
  have hW' := hW
  obtain ⟨p, q, hA0, hV, rfl, _, _⟩ := hW
  have hA : DataW.TrodAll enc Try.prog W 0 (fun _ => true) true Try.f6.params.toList args.toList ds p := hA0
  rw [Try.params6] at hA hval
  obtain ⟨v0, vs0, d0, ds0, p0, q0, hargs, rfl, rfl, h0, r0⟩ := trodAll_cons hA
  obtain ⟨v1, vs1, d1, ds1, p1, q1, rfl, rfl, rfl, h1, r1⟩ := trodAll_cons r0
  obtain ⟨rfl, rfl, rfl⟩ := trodAll_nil r1
  obtain rfl : args = #[v0, v1] := by cases args; simp_all
  obtain ⟨rfl, rfl⟩ := trodVars_none hV
  have lt0 : ∀ x ∈ p0, x.block < W.heap.size := by obtain ⟨m, hm⟩ := h0; exact DataW.trod_lt m _ _ _ hm
  have lt1 : ∀ x ∈ p1, x.block < W.heap.size := by obtain ⟨m, hm⟩ := h1; exact DataW.trod_lt m _ _ _ hm
  have k0 := h0
  have k1 := h1
  obtain ⟨a1, l1, c1, rfl⟩ := okWide_slice Try.underlying23 (hval 1 23 v1 rfl rfl)
  obtain ⟨x, rfl, _, _, hxw⟩ := open_int Try.underlying5 (hval 0 5 v0 rfl rfl) h0
  have hx2 : (0 : Int) ≤ x ∧ x ≤ 255 := by
    have h8 : (decide ((0 : Int) ≤ x) && decide (x ≤ 255)) = true := hxw
    simpa using h8
  obtain ⟨m1, hm1⟩ := h1
  obtain ⟨ops, rfl, hol, hos⟩ := open_ops hm1
  clear hA0 hval0
  refine (fuse_walk x a1 c1 ops W hx2.1 hx2.2 hos hol).mono fun e W' ⟨he, bel⟩ => ?_
  subst he
  exact ⟨_, rfl, _, _, _, [], _, [], hW', trodAll_mk1 (shut_bool Try.underlying4 _), (trodAll_cons_mk (Below.trod laidOut (by kernel_rfl) (of_decide_eq_true (by kernel_rfl)) k0 bel lt0) (trodAll_cons_mk (Below.trod laidOut (by kernel_rfl) (of_decide_eq_true (by kernel_rfl)) k1 bel lt1) trodAll_mk0)), rfl, bel.frame _, fun h => by cases h⟩

theorem holds : Rows.DeviceFuseSaid :=
  OpenClaim.holds_of_wide 6 Try.f6 rfl rfl rfl rfl rfl rfl rfl ⟨rfl, rfl, rfl, rfl, rfl⟩ rfl rfl rfl rfl rfl (by kernel_rfl) Try.func6 (by kernel_rfl)
    (of_decide_eq_true (by kernel_rfl)) (by unfold Func.isWrapper; first | (rw [if_pos (by decide +kernel)]; kernel_rfl) | (rw [if_neg (by decide +kernel)]; exact ⟨rfl, rfl⟩))
    (fun os started H enc _ => lifted os started H enc)
end deviceFuse
end Go.Proofs.Ytgkhnimdlkdaaaa
