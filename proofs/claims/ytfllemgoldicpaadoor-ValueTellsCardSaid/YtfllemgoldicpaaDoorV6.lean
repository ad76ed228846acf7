/- Values: Compare. -/
import Derived.Test.YtfllemgoldicpaaDoorV5
namespace Go.Proofs.YtfllemgoldicpaaDoor
open Go.RowKit Go.Lib Go.Op

/-- The table of comparisons, in memory. -/
def HoldsTab (w : World) : Prop := ∀ o i : Nat, 1 ≤ o → o ≤ 6 → i < 3 → w.cell? ⟨0, o * 3 + i, none⟩ = some (.bool (holdsV o i))

theorem HoldsTab.below {w w' : World} (h : HoldsTab w) (hb : Below w.heap.size w w') : HoldsTab w' := fun o i h1 h2 h3 => by
  have h4 := h o i h1 h2 h3
  exact (hb.cell (World.block_lt_of_cell? _ _ h4)).trans h4

/-- What Compare leaves. -/
def CmpPost (w : World) (z : Bool × Int) (e : Ending) (w' : World) : Prop := e = .returned (.tuple #[.bool z.1, .int .i64 z.2]) ∧ Below w.heap.size w w'

theorem cmpV_arg {op : Int} {a b : PVal} (h : rightB a = false ∨ rightB b = false ∨ op < 1 ∨ 6 < op) : cmpV op a b = (false, 1) := by unfold cmpV; rw [if_pos h]
theorem cmpV_kind {op : Int} {a b : PVal} (h1 : rightB a = true) (h2 : rightB b = true) (h3 : 1 ≤ op) (h4 : op ≤ 6) (h : a.k ≠ b.k ∨ a.k = 3 ∧ op ≠ 1 ∧ op ≠ 2) : cmpV op a b = (false, 42) := by
  unfold cmpV; rw [if_neg (by simp [h1, h2]; omega), if_pos h]
theorem cmpV_ok {op : Int} {a b : PVal} (h1 : rightB a = true) (h2 : rightB b = true) (h3 : 1 ≤ op) (h4 : op ≤ 6) (h5 : a.k = b.k) (h : a.k ≠ 3 ∨ op = 1 ∨ op = 2) : cmpV op a b = (holdsV op (1 + signV a b), 0) := by
  unfold cmpV; rw [if_neg (by simp [h1, h2]; omega), if_neg (by omega)]

section
variable (k1 n1 : Int) (s1 : ByteArray) (k2 n2 : Int) (s2 : ByteArray) (w : World)

set_option maxHeartbeats 4000000 in
set_option maxRecDepth 100000 in
theorem vcompare_no (op : Int) (hs1 : s1.size ≤ maxLen) (hs2 : s2.size ≤ maxLen) (z : Int)
    (h : ((rightV k1 n1 s1 = false ∨ rightV k1 n1 s1 = true ∧ (rightV k2 n2 s2 = false ∨ rightV k2 n2 s2 = true ∧ (op < 1 ∨ 6 < op))) ∧ z = 1) ∨ (rightV k1 n1 s1 = true ∧ rightV k2 n2 s2 = true ∧ 1 ≤ op ∧ op ≤ 6 ∧ (k1 ≠ k2 ∨ k1 = k2 ∧ k1 = 3 ∧ op ≠ 1 ∧ op ≠ 2) ∧ z = 42)) :
    Calls Tryd.prog 14 #[.int .i64 op, .agg #[.int .i64 k1, .int .i64 n1, .string s1], .agg #[.int .i64 k2, .int .i64 n2, .string s2]] w (CmpPost w (false, z)) := by
  rcases h with ⟨h | ⟨h1, h | ⟨h2, h | h⟩⟩, rfl⟩ | ⟨h1, h2, h3, h4, h | ⟨rfl, rfl, h5, h6⟩, rfl⟩
  · go_enter Tryd.func14, Tryd.ntmps14
    go_wp2_with (go_at_call 16; refine (vright_calls _ _ _ _ (by assumption)).mono ?_; rintro e w1 ⟨rfl, rfl⟩)
    go_ret2
    exact ⟨rfl, by repeat' (first | exact Below.refl _ _ | refine Below.alloc ?_ (by simp <;> omega) _)⟩
  · go_enter Tryd.func14, Tryd.ntmps14
    go_wp2_with (go_at_call 16; refine (vright_calls _ _ _ _ (by assumption)).mono ?_; rintro e w1 ⟨rfl, rfl⟩)
    go_ret2
    exact ⟨rfl, by repeat' (first | exact Below.refl _ _ | refine Below.alloc ?_ (by simp <;> omega) _)⟩
  · go_enter Tryd.func14, Tryd.ntmps14
    go_wp2_with (go_at_call 16; refine (vright_calls _ _ _ _ (by assumption)).mono ?_; rintro e w1 ⟨rfl, rfl⟩)
    go_ret2
    exact ⟨rfl, by repeat' (first | exact Below.refl _ _ | refine Below.alloc ?_ (by simp <;> omega) _)⟩
  · go_enter Tryd.func14, Tryd.ntmps14
    go_wp2_with (go_at_call 16; refine (vright_calls _ _ _ _ (by assumption)).mono ?_; rintro e w1 ⟨rfl, rfl⟩)
    go_ret2
    exact ⟨rfl, by repeat' (first | exact Below.refl _ _ | refine Below.alloc ?_ (by simp <;> omega) _)⟩
  · go_enter Tryd.func14, Tryd.ntmps14
    go_wp2_with (go_at_call 16; refine (vright_calls _ _ _ _ (by assumption)).mono ?_; rintro e w1 ⟨rfl, rfl⟩)
    go_ret2
    exact ⟨rfl, by repeat' (first | exact Below.refl _ _ | refine Below.alloc ?_ (by simp <;> omega) _)⟩
  · have h7 : (op != 1) = true := by rw [bne_iff_ne]; exact h5
    have h8 : (op != 2) = true := by rw [bne_iff_ne]; exact h6
    go_enter Tryd.func14, Tryd.ntmps14
    go_wp2_with (go_at_call 16; refine (vright_calls _ _ _ _ (by assumption)).mono ?_; rintro e w1 ⟨rfl, rfl⟩)
    go_ret2
    exact ⟨rfl, by repeat' (first | exact Below.refl _ _ | refine Below.alloc ?_ (by simp <;> omega) _)⟩

set_option maxHeartbeats 4000000 in
set_option maxRecDepth 100000 in
theorem vcompare_yes (o : Nat) (hs1 : s1.size ≤ maxLen) (hs2 : s2.size ≤ maxLen) (hT : HoldsTab w) (h1 : rightV k1 n1 s1 = true) (h2 : rightV k1 n2 s2 = true) (h3 : 1 ≤ o) (h4 : o ≤ 6) (h : k1 ≠ 3 ∨ k1 = 3 ∧ (o = 1 ∨ o = 2)) :
    Calls Tryd.prog 14 #[.int .i64 o, .agg #[.int .i64 k1, .int .i64 n1, .string s1], .agg #[.int .i64 k1, .int .i64 n2, .string s2]] w (CmpPost w (holdsV o (1 + signV ⟨k1, n1, s1.data.toList⟩ ⟨k1, n2, s2.data.toList⟩), 0)) := by
  have hsg := fun W => sign_calls k1 n1 s1 k1 n2 s2 W
  obtain ⟨i, hi, hi3⟩ : ∃ i : Nat, 1 + signV ⟨k1, n1, s1.data.toList⟩ ⟨k1, n2, s2.data.toList⟩ = i ∧ i < 3 := by
    rcases signV_cases ⟨k1, n1, s1.data.toList⟩ ⟨k1, n2, s2.data.toList⟩ with ⟨_, _, _, e⟩ | ⟨_, _, _, e⟩ | ⟨_, _, _, e⟩ <;> rw [e]
    · exact ⟨0, rfl, by omega⟩
    · exact ⟨2, rfl, by omega⟩
    · exact ⟨1, rfl, by omega⟩
  rw [hi]
  have hcell := hT o i h3 h4 hi3
  generalize holdsV o i = bv at hcell ⊢
  obtain ⟨z, hz⟩ : ∃ z, signV ⟨k1, n1, s1.data.toList⟩ ⟨k1, n2, s2.data.toList⟩ = z := ⟨_, rfl⟩
  rw [hz] at hsg hi
  have HS : Hid (∀ W, Below w.heap.size w W → ∀ b : Nat, b = w.heap.size → W.cell? ⟨b, 0, none⟩ = some (.int .i64 k1) → W.cell? ⟨b, 1, none⟩ = some (.int .i64 n1) → W.cell? ⟨b, 2, none⟩ = some (.string s1) → W.cell? ⟨b + 1, 0, none⟩ = some (.int .i64 k1) → W.cell? ⟨b + 1, 1, none⟩ = some (.int .i64 n2) → W.cell? ⟨b + 1, 2, none⟩ = some (.string s2) →
      Calls Tryd.prog 27 #[.agg #[.int .i64 k1, .int .i64 n1, .string s1], .agg #[.int .i64 k1, .int .i64 n2, .string s2]] W fun e w' => e = .returned (.int .i64 z) ∧ w'.cell? ⟨b, 0, none⟩ = some (.int .i64 k1) ∧ w'.cell? ⟨b, 1, none⟩ = some (.int .i64 n1) ∧ w'.cell? ⟨b, 2, none⟩ = some (.string s1) ∧ w'.cell? ⟨b + 1, 0, none⟩ = some (.int .i64 k1) ∧ w'.cell? ⟨b + 1, 1, none⟩ = some (.int .i64 n2) ∧ w'.cell? ⟨b + 1, 2, none⟩ = some (.string s2) ∧ w'.cell? ⟨0, o * 3 + i, none⟩ = some (.bool bv) ∧ Hid (Below w.heap.size w w')) := fun W hb b hbe a0 a1 a2 a3 a4 a5 => (hsg W).mono fun e w' ⟨e1, hb2⟩ => by
    have k : ∀ {p : Addr} {v : Value}, W.cell? p = some v → w'.cell? p = some v := fun hp => (hb2.cell (World.block_lt_of_cell? _ _ hp)).trans hp
    exact ⟨e1, k a0, k a1, k a2, k a3, k a4, k a5, k ((hb.cell (World.block_lt_of_cell? _ _ hcell)).trans hcell), hb.trans (hb2.mono hb.size)⟩
  clear hsg hz hT
  have t0 : ((k1 == 3) = false) ∨ ((k1 == 3) = true ∧ ((o : Int) != 1) = false) ∨ ((k1 == 3) = true ∧ ((o : Int) != 1) = true ∧ ((o : Int) != 2) = false) := by
    rcases h with h | ⟨h, rfl | rfl⟩
    · exact .inl (by rw [beq_eq_false_iff_ne]; exact h)
    · exact .inr (.inl ⟨by rw [beq_iff_eq]; exact h, by decide⟩)
    · exact .inr (.inr ⟨by rw [beq_iff_eq]; exact h, by decide, by decide⟩)
  have q1 : IntKind.i64.wrap (1 + z) = i := by rw [IntWalk.i64_in _ (by omega)]; omega
  have q2 : IntKind.i64.wrap (i : Int) = i := IntWalk.i64_in _ (by omega)
  clear hi
  have q3 : (0 : Int) ≤ (o : Int) := by omega
  have q4 : (o : Int) < 7 := by omega
  have q5 : (0 : Int) ≤ (i : Int) := by omega
  have q6 : (i : Int) < 3 := by omega
  clear h
  rcases t0 with t0 | ⟨t0, t1⟩ | ⟨t0, t1, t2⟩
  all_goals
    go_enter Tryd.func14, Tryd.ntmps14
    go_wp2_with (go_at_call 16; refine (vright_calls _ _ _ _ (by assumption)).mono ?_; rintro e w1 ⟨rfl, rfl⟩)
    obtain ⟨W0, hW0⟩ : ∃ W0, W0 = (((w.alloc (.cells #[.int .i64 k1, .int .i64 n1, .string s1] 23)).alloc (.cells #[.int .i64 k1, .int .i64 n2, .string s2] 23)).alloc (.cells #[.int .i64 k1, .int .i64 n1, .string s1] 23)).alloc (.cells #[.int .i64 k1, .int .i64 n2, .string s2] 23) := ⟨_, rfl⟩
    have hb2 : Below ((w.alloc (.cells #[.int .i64 k1, .int .i64 n1, .string s1] 23)).alloc (.cells #[.int .i64 k1, .int .i64 n2, .string s2] 23)).heap.size ((w.alloc (.cells #[.int .i64 k1, .int .i64 n1, .string s1] 23)).alloc (.cells #[.int .i64 k1, .int .i64 n2, .string s2] 23)) W0 := by
      rw [hW0]
      exact ((Below.refl _ _).alloc (by simp) _).alloc (by simp) _
    have c0 : W0.cell? ⟨w.heap.size, 0, none⟩ = some (.int .i64 k1) := (hb2.cell (p := ⟨w.heap.size, 0, none⟩) (by simp <;> omega)).trans (by simp)
    have c1 : W0.cell? ⟨w.heap.size, 1, none⟩ = some (.int .i64 n1) := (hb2.cell (p := ⟨w.heap.size, 1, none⟩) (by simp <;> omega)).trans (by simp)
    have c2 : W0.cell? ⟨w.heap.size, 2, none⟩ = some (.string s1) := (hb2.cell (p := ⟨w.heap.size, 2, none⟩) (by simp <;> omega)).trans (by simp)
    have d0 : W0.cell? ⟨w.heap.size + 1, 0, none⟩ = some (.int .i64 k1) := (hb2.cell (p := ⟨w.heap.size + 1, 0, none⟩) (by simp)).trans (by simp)
    have d1 : W0.cell? ⟨w.heap.size + 1, 1, none⟩ = some (.int .i64 n2) := (hb2.cell (p := ⟨w.heap.size + 1, 1, none⟩) (by simp)).trans (by simp)
    have d2 : W0.cell? ⟨w.heap.size + 1, 2, none⟩ = some (.string s2) := (hb2.cell (p := ⟨w.heap.size + 1, 2, none⟩) (by simp)).trans (by simp)
    have hb : Below w.heap.size w W0 := by rw [hW0]; repeat' (first | exact Below.refl _ _ | refine Below.alloc ?_ (by simp <;> omega) _)
    have d3 : W0.cell? ⟨0, o * 3 + i, none⟩ = some (.bool bv) := (hb.cell (World.block_lt_of_cell? _ _ hcell)).trans hcell
    have HB1 := Lib.hid (vbelow_drew hb)
    rw [← hW0]
    clear hW0 hb hcell hb2
    go_region_held3 (fun W => W.cell? ⟨w.heap.size, 0, none⟩ = some (.int .i64 k1) ∧ W.cell? ⟨w.heap.size, 1, none⟩ = some (.int .i64 n1) ∧ W.cell? ⟨w.heap.size, 2, none⟩ = some (.string s1) ∧ W.cell? ⟨w.heap.size + 1, 0, none⟩ = some (.int .i64 k1) ∧ W.cell? ⟨w.heap.size + 1, 1, none⟩ = some (.int .i64 n2) ∧ W.cell? ⟨w.heap.size + 1, 2, none⟩ = some (.string s2) ∧ W.cell? ⟨0, o * 3 + i, none⟩ = some (.bool bv) ∧ Hid (Below w.heap.size w W))
      ((refine ⟨?_, ?_, ?_, ?_, ?_, ?_, ?_, ?_⟩ <;> assumption))
      (first
        | (go_at_call 27; refine (HS.out _ (by with_reducible assumption : Hid _).out _ rfl (by assumption) (by assumption) (by assumption) (by assumption) (by assumption) (by assumption)).mono ?_; rintro e w3 ⟨rfl, x0, x1, x2, x3, x4, x5, x6, x7⟩))
    all_goals
      go_wp2
      go_ret2
      exact ⟨rfl, by first | exact x7.out | (apply Hid.out; assumption)⟩

theorem vcompare_calls (op : Int) (hs1 : s1.size ≤ maxLen) (hs2 : s2.size ≤ maxLen) (hT : HoldsTab w) :
    Calls Tryd.prog 14 #[.int .i64 op, .agg #[.int .i64 k1, .int .i64 n1, .string s1], .agg #[.int .i64 k2, .int .i64 n2, .string s2]] w (CmpPost w (cmpV op ⟨k1, n1, s1.data.toList⟩ ⟨k2, n2, s2.data.toList⟩)) := by
  cases h1 : rightV k1 n1 s1 with
  | false =>
    rw [cmpV_arg (.inl h1)]
    exact vcompare_no k1 n1 s1 k2 n2 s2 w op hs1 hs2 1 (.inl ⟨.inl h1, rfl⟩)
  | true =>
  cases h2 : rightV k2 n2 s2 with
  | false =>
    rw [cmpV_arg (.inr (.inl h2))]
    exact vcompare_no k1 n1 s1 k2 n2 s2 w op hs1 hs2 1 (.inl ⟨.inr ⟨h1, .inl h2⟩, rfl⟩)
  | true =>
  by_cases h3 : op < 1 ∨ 6 < op
  · rw [cmpV_arg (.inr (.inr h3))]
    exact vcompare_no k1 n1 s1 k2 n2 s2 w op hs1 hs2 1 (.inl ⟨.inr ⟨h1, .inr ⟨h2, h3⟩⟩, rfl⟩)
  have h4 : 1 ≤ op := by omega
  have h5 : op ≤ 6 := by omega
  by_cases h6 : k1 = k2
  rotate_left
  · rw [cmpV_kind h1 h2 h4 h5 (.inl h6)]
    exact vcompare_no k1 n1 s1 k2 n2 s2 w op hs1 hs2 42 (.inr ⟨h1, h2, h4, h5, .inl h6, rfl⟩)
  subst h6
  by_cases h7 : k1 = 3 ∧ op ≠ 1 ∧ op ≠ 2
  · rw [cmpV_kind h1 h2 h4 h5 (.inr h7)]
    exact vcompare_no k1 n1 s1 k1 n2 s2 w op hs1 hs2 42 (.inr ⟨h1, h2, h4, h5, .inr ⟨rfl, h7⟩, rfl⟩)
  obtain ⟨o, rfl⟩ : ∃ o : Nat, op = o := ⟨op.toNat, by omega⟩
  rw [cmpV_ok h1 h2 h4 h5 rfl (by show k1 ≠ 3 ∨ _; omega)]
  exact vcompare_yes k1 n1 s1 n2 s2 w o hs1 hs2 hT h1 h2 (by omega) (by omega) (by omega)
end

end Go.Proofs.YtfllemgoldicpaaDoor
