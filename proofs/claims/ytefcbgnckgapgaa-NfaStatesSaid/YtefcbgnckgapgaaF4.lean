/- All records of the frames that bytes begin with: Cut. -/
import Derived.Test.YtefcbgnckgapgaaF3
namespace Go.Proofs.Ytefcbgnckgapgaa
open Go.RowKit Go.Lib

theorem wp_scope_jumps_at {P : Program} {a : Act} {w : World} {Q : Exit → Act → World → Prop} {c rest : Code} (a1 : Act) (l : Nat) (J : Act → World → Prop) (μ : Act → World → Nat) (hf : findLabel c l = some (.seq .skip rest))
    (hfirst : ∀ R : Exit → Act → World → Prop, rest.wp P R a1 w → c.wp P R a w) (hJ : J a1 w)
    (pass : ∀ a w, J a w → rest.wp P (Exit.jump l (fun a' w' => J a' w' ∧ μ a' w' < μ a w) Q) a w) : (Code.scope c).wp P Q a w :=
  wp_scope_jumps l J μ hf (hfirst _ (Code.wp_mono (fun e a w q => by
    cases e with
    | goto l' => exact ⟨q.1, q.2.1⟩
    | _ => exact q) (pass a1 w hJ))) (fun a w h => wp_seq (wp_skip (pass a w h)))

theorem firstB_le {l r : List UInt8} (h : firstB l = some r) : r.length + 5 ≤ l.length ∧ r.length ≤ 4096 ∧ l.take (r.length + 5) = frameB r := by
  unfold firstB at h
  split at h; · cases h
  rename_i h5
  split at h; · cases h
  rename_i h82
  split at h; · cases h
  rename_i hbig
  split at h; · cases h
  rename_i hmore
  split at h; · cases h
  rename_i hsum
  injection h with h
  have hlen : r.length = saysN l := by rw [← h, List.length_take, List.length_drop]; omega
  refine ⟨by omega, by omega, ?_⟩
  obtain ⟨x0, x1, x2, x3, x4, t, rfl⟩ : ∃ x0 x1 x2 x3 x4 t, l = x0 :: x1 :: x2 :: x3 :: x4 :: t := by
    match l, h5 with
    | x0 :: x1 :: x2 :: x3 :: x4 :: t, _ => exact ⟨_, _, _, _, _, _, rfl⟩
    | [], h => simp at h
    | [_], h => simp at h
    | [_, _], h => simp at h
    | [_, _, _], h => simp at h
    | [_, _, _, _], h => simp at h
  have e0 : x0 = 82 := by
    have : x0.toNat = 82 := by simpa [byteN] using h82
    exact UInt8.toNat_inj.1 this
  have hs : saysN (x0 :: x1 :: x2 :: x3 :: x4 :: t) = 256 * x1.toNat + x2.toNat := rfl
  have h3 : byteN (x0 :: x1 :: x2 :: x3 :: x4 :: t) 3 = x3.toNat := rfl
  have h4 : byteN (x0 :: x1 :: x2 :: x3 :: x4 :: t) 4 = x4.toNat := rfl
  rw [h3, h4] at hsum
  have b1 := x1.toNat_lt
  have b2 := x2.toNat_lt
  have b3 := x3.toNat_lt
  have b4 := x4.toNat_lt
  have hr : sumN r = 256 * x3.toNat + x4.toNat := by rw [← h]; omega
  have e1 : UInt8.ofNat (r.length / 256) = x1 := by
    rw [hlen, hs, show (256 * x1.toNat + x2.toNat) / 256 = x1.toNat by omega]; simp
  have e2 : UInt8.ofNat (r.length % 256) = x2 := by
    rw [hlen, hs, show (256 * x1.toNat + x2.toNat) % 256 = x2.toNat by omega]; simp
  have e3 : UInt8.ofNat (sumN r / 256) = x3 := by
    rw [hr, show (256 * x3.toNat + x4.toNat) / 256 = x3.toNat by omega]; simp
  have e4 : UInt8.ofNat (sumN r % 256) = x4 := by
    rw [hr, show (256 * x3.toNat + x4.toNat) % 256 = x4.toNat by omega]; simp
  have h' : t.take (saysN (x0 :: x1 :: x2 :: x3 :: x4 :: t)) = r := h
  rw [frameB, e1, e2, e3, e4, e0, hlen]
  show 82 :: x1 :: x2 :: x3 :: x4 :: t.take (saysN (x0 :: x1 :: x2 :: x3 :: x4 :: t)) = _
  rw [h']
  rfl

/-- The records of the frames that bytes begin with. -/
def cutB (l : List UInt8) : List (List UInt8) :=
  match h : firstB l with
  | none => []
  | some r => r :: cutB (l.drop (r.length + 5))
termination_by l.length
decreasing_by
  have := (firstB_le h).1
  rw [List.length_drop]
  omega

theorem cutB_none {l : List UInt8} (h : firstB l = none) : cutB l = [] := by
  rw [cutB]; split
  · rfl
  · rename_i r hr; rw [h] at hr; cases hr
theorem cutB_some {l r : List UInt8} (h : firstB l = some r) : cutB l = r :: cutB (l.drop (r.length + 5)) := by
  rw [cutB]; split
  · rename_i hr; rw [h] at hr; cases hr
  · rename_i r' hr; rw [h] at hr; injection hr with hr; rw [hr]

/-- How many bytes records' frames have. -/
def lensN (rs : List (List UInt8)) : Nat := (rs.map fun r => r.length + 5).sum
def cutN (l : List UInt8) : Nat := lensN (cutB l)

theorem lensN_append (a b : List (List UInt8)) : lensN (a ++ b) = lensN a + lensN b := by simp [lensN]
theorem lensN_one (r : List UInt8) : lensN [r] = r.length + 5 := by simp [lensN]
theorem lensN_ge (rs : List (List UInt8)) : rs.length * 5 ≤ lensN rs := by
  induction rs with
  | nil => simp [lensN]
  | cons r rs ih => simp only [lensN, List.map_cons, List.sum_cons, List.length_cons] at *; omega

theorem cutN_le : ∀ (n : Nat) (l : List UInt8), l.length = n → cutN l ≤ l.length := by
  intro n
  induction n using Nat.strongRecOn with
  | _ n ih =>
    intro l hl
    cases h : firstB l with
    | none => simp [cutN, cutB_none h, lensN]
    | some r =>
      have h1 := (firstB_le h).1
      have h2 := ih (l.drop (r.length + 5)).length (by rw [List.length_drop]; omega) _ rfl
      rw [List.length_drop] at h2
      simp only [cutN, cutB_some h, lensN, List.map_cons, List.sum_cons] at h2 ⊢
      omega

theorem infoS16 : (Try.prog.info? 9).map (fun i => (i.zero, i.size, i.bytes)) = some (some (.string .empty), 1, 16) := by kernel_rfl

/-- Texts as cells. -/
def recCells (rs : List (List UInt8)) : List Value := rs.map fun r => Value.string (strB r)
theorem recCells_one (rs : List (List UInt8)) : ∀ u ∈ recCells rs, u.oneCell' = true := by
  intro u hu
  simp only [recCells, List.mem_map] at hu
  obtain ⟨r, _, rfl⟩ := hu
  rfl
theorem recCells_length (rs : List (List UInt8)) : (recCells rs).length = rs.length := by simp [recCells]

/-- What Cut answers. -/
def CutPost (w : World) (bs : List UInt8) (e : Ending) (w' : World) : Prop :=
  ∃ v, e = .returned (.tuple #[v, .int .i64 (cutN bs)]) ∧ w'.ownsRow w.heap.size 9 1 v (cutB bs).length (recCells (cutB bs)) ∧ Below w.heap.size w w'

theorem ret_two {v : Value} {a b : Int} (h : a = b) : Ending.returned (.tuple #[v, .int .i64 a]) = .returned (.tuple #[v, .int .i64 b]) := by rw [h]

theorem fbelow_drewN {B : Nat} {a w : World} (h : Below B a w) (n : Nat) : Below B a (w.drewN n) := ⟨h.os, h.tape, h.output, h.size, h.block⟩

theorem vals_new (w : World) (vs : List Value) (cs : Array Value) (t : TypeId) (fr : Nat × Nat) (h : cs.toList = vs) : ∀ j u, vs[j]? = some u → (w.alloc (.cells cs t fr)).cell? ((⟨w.heap.size, 0, none⟩ : Addr).add j) = some u := by
  intro j u hu
  have hadd : (⟨w.heap.size, 0, none⟩ : Addr).add j = ⟨w.heap.size, j, none⟩ := by unfold Addr.add; split <;> simp_all
  rw [hadd]
  refine fcell_of_blk (heap_alloc_new w _) ?_
  rw [← h] at hu
  simpa using hu

end Go.Proofs.Ytefcbgnckgapgaa
