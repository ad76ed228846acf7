/- The statement EventOrder, its walk. -/
import Derived.Test.YtppgecbjdkfohaaEGe
namespace Go.Proofs.Ytppgecbjdkfohaa
open Go.RowKit Go.Lib Go.Op

/-- An event that came in. -/
structure EvIn where
  t : Int
  d : Int
  s : Int
  n : ByteArray
  v : Value
abbrev evI (e : EvIn) : Value := .agg #[.int .i64 e.t, .int .i64 e.d, .int .i64 e.s, .string e.n, e.v]

/-- Its cells. -/
def EC (b : Nat) (e : EvIn) (W : World) : Prop := W.cell? ⟨b, 0, none⟩ = some (.int .i64 e.t) ∧ W.cell? ⟨b, 1, none⟩ = some (.int .i64 e.d) ∧ W.cell? ⟨b, 2, none⟩ = some (.int .i64 e.s) ∧ W.cell? ⟨b, 3, none⟩ = some (.string e.n) ∧ W.cell? ⟨b, 4, none⟩ = some e.v
theorem EC.below {b : Nat} {e : EvIn} {W W' : World} (h : EC b e W) (hb : Below W.heap.size W W') : EC b e W' := ⟨ekeep hb h.1, ekeep hb h.2.1, ekeep hb h.2.2.1, ekeep hb h.2.2.2.1, ekeep hb h.2.2.2.2⟩
theorem EC.new (W : World) (e : EvIn) {b : Nat} (hb : b = W.heap.size) : EC b e (W.alloc (.cells #[.int .i64 e.t, .int .i64 e.d, .int .i64 e.s, .string e.n, e.v] 25)) :=
  ⟨new_cell _ _ _ hb rfl, new_cell _ _ _ hb rfl, new_cell _ _ _ hb rfl, new_cell _ _ _ hb rfl, new_cell _ _ _ hb rfl⟩

/-- Three events in their boxes. -/
structure OW (w : World) (A B C : EvIn) (W : World) : Prop where
  a : EC w.heap.size A W
  b : EC (w.heap.size + 1) B W
  c : EC (w.heap.size + 1 + 1) C W
  hb : Below w.heap.size w W
theorem OW.below {w : World} {A B C : EvIn} {W W' : World} (h : OW w A B C W) (hb : Below W.heap.size W W') : OW w A B C W' := ⟨h.a.below hb, h.b.below hb, h.c.below hb, h.hb.trans (hb.mono h.hb.size)⟩
theorem OW.start (w : World) (A B C : EvIn) : OW w A B C (((w.alloc (.cells #[.int .i64 A.t, .int .i64 A.d, .int .i64 A.s, .string A.n, A.v] 25)).alloc (.cells #[.int .i64 B.t, .int .i64 B.d, .int .i64 B.s, .string B.n, B.v] 25)).alloc (.cells #[.int .i64 C.t, .int .i64 C.d, .int .i64 C.s, .string C.n, C.v] 25)) where
  a := ((EC.new _ _ rfl).below ((Below.refl _ _).alloc (Nat.le_refl _) _)).below ((Below.refl _ _).alloc (Nat.le_refl _) _)
  b := (EC.new _ _ (by simp)).below ((Below.refl _ _).alloc (Nat.le_refl _) _)
  c := EC.new _ _ (by simp)
  hb := by repeat' (first | exact Below.refl _ _ | refine Below.alloc ?_ (by simp <;> omega) _)

theorem lessE_self (t d s : Int) : lessE t d s t d s = false := decide_eq_false (by omega)
theorem lessE_trans {t d s t' d' s' t'' d'' s'' : Int} (h : lessE t d s t' d' s' = true) (h' : lessE t' d' s' t'' d'' s'' = true) : lessE t d s t'' d'' s'' = true := by
  have h1 := of_decide_eq_true h
  have h2 := of_decide_eq_true h'
  exact decide_eq_true (by omega)
theorem beqI_true {a b : Int} (h : a = b) : (a == b) = true := by rw [beq_iff_eq]; exact h
theorem beqI_false {a b : Int} (h : a ≠ b) : (a == b) = false := by rw [beq_eq_false_iff_ne]; exact h
theorem less_cases (t d s t' d' s' : Int) :
    (lessE t d s t' d' s' = true ∧ lessE t' d' s' t d s = false ∧ ((t == t') = false ∨ (t == t') = true ∧ ((d == d') = false ∨ (d == d') = true ∧ (s == s') = false))) ∨
    (lessE t d s t' d' s' = false ∧ lessE t' d' s' t d s = true ∧ ((t == t') = false ∨ (t == t') = true ∧ ((d == d') = false ∨ (d == d') = true ∧ (s == s') = false))) ∨
    (lessE t d s t' d' s' = false ∧ lessE t' d' s' t d s = false ∧ (t == t') = true ∧ (d == d') = true ∧ (s == s') = true) := by
  rcases Int.lt_trichotomy t t' with h | h | h
  · exact .inl ⟨decide_eq_true (by omega), decide_eq_false (by omega), .inl (beqI_false (by omega))⟩
  · rcases Int.lt_trichotomy d d' with h1 | h1 | h1
    · exact .inl ⟨decide_eq_true (by omega), decide_eq_false (by omega), .inr ⟨beqI_true h, .inl (beqI_false (by omega))⟩⟩
    · rcases Int.lt_trichotomy s s' with h2 | h2 | h2
      · exact .inl ⟨decide_eq_true (by omega), decide_eq_false (by omega), .inr ⟨beqI_true h, .inr ⟨beqI_true h1, beqI_false (by omega)⟩⟩⟩
      · exact .inr (.inr ⟨decide_eq_false (by omega), decide_eq_false (by omega), beqI_true h, beqI_true h1, beqI_true h2⟩)
      · exact .inr (.inl ⟨decide_eq_false (by omega), decide_eq_true (by omega), .inr ⟨beqI_true h, .inr ⟨beqI_true h1, beqI_false (by omega)⟩⟩⟩)
    · exact .inr (.inl ⟨decide_eq_false (by omega), decide_eq_true (by omega), .inr ⟨beqI_true h, .inl (beqI_false (by omega))⟩⟩)
  · exact .inr (.inl ⟨decide_eq_false (by omega), decide_eq_true (by omega), .inl (beqI_false (by omega))⟩)

/-- What GreatEvent leaves. -/
def GreatQ (P : World → Prop) (e : Ending) (w' : World) : Prop := ∃ g : Bool, e = .returned (.bool g) ∧ Hid (P w')

theorem less_hold {w : World} {A B C : EvIn} (X Y : EvIn) {r : Bool} (h : lessE X.t X.d X.s Y.t Y.d Y.s = r) : Hid (∀ W : World, Hid (OW w A B C W) → Calls Try.prog 33 #[evI X, evI Y] W fun e w' => e = .returned (.bool r) ∧ Hid (OW w A B C w')) := fun W hW => by
  have h1 := less_calls X.t X.d X.s X.n X.v Y.t Y.d Y.s Y.n Y.v W
  rw [h] at h1
  exact h1.mono fun e w' ⟨h2, h3⟩ => ⟨h2, hW.out.below h3⟩

theorem great_hold {w : World} {A B C : EvIn} (X : EvIn) (hn : X.n.size ≤ maxLen) {a : Option Addr} {c : Nat} {vs : List VIn} (hv : X.v = .slice a vs.length c) (hr : VRow w a vs) (hl : vs.length ≤ maxLen) : Hid (∀ W : World, Hid (OW w A B C W) → Calls Try.prog 16 #[evI X] W (GreatQ (OW w A B C))) := fun W hW => by
  obtain ⟨t, d, s, n, v⟩ := X
  dsimp only at hn hv
  subst hv
  exact (greatE_calls t d s n a c vs W hn (hr.below hW.out.hb) hl).mono fun e w' ⟨g, h1, h2⟩ => ⟨g, h1, hW.out.below h2⟩

set_option maxHeartbeats 8000000 in
set_option maxRecDepth 100000 in
theorem order_walk (w : World) (A B C : EvIn) (GA : Hid (∀ W : World, Hid (OW w A B C W) → Calls Try.prog 16 #[evI A] W (GreatQ (OW w A B C)))) (GB : Hid (∀ W : World, Hid (OW w A B C W) → Calls Try.prog 16 #[evI B] W (GreatQ (OW w A B C)))) (GC : Hid (∀ W : World, Hid (OW w A B C W) → Calls Try.prog 16 #[evI C] W (GreatQ (OW w A B C))))
    (vA : ∃ a l c, A.v = .slice a l c) (vB : ∃ a l c, B.v = .slice a l c) (vC : ∃ a l c, C.v = .slice a l c) :
    Calls Try.prog 6 #[evI A, evI B, evI C] w (EFine w) := by
  obtain ⟨A1, A2, A3, A4, A5⟩ := A
  obtain ⟨B1, B2, B3, B4, B5⟩ := B
  obtain ⟨C1, C2, C3, C4, C5⟩ := C
  obtain ⟨a1, l1, k1, e1⟩ := vA
  obtain ⟨a2, l2, k2, e2⟩ := vB
  obtain ⟨a3, l3, k3, e3⟩ := vC
  dsimp only at e1 e2 e3
  subst e1 e2 e3
  have HS0 := Lib.hid (OW.start w ⟨A1, A2, A3, A4, .slice a1 l1 k1⟩ ⟨B1, B2, B3, B4, .slice a2 l2 k2⟩ ⟨C1, C2, C3, C4, .slice a3 l3 k3⟩)
  have LAA := less_hold (w := w) (A := ⟨A1, A2, A3, A4, .slice a1 l1 k1⟩) (B := ⟨B1, B2, B3, B4, .slice a2 l2 k2⟩) (C := ⟨C1, C2, C3, C4, .slice a3 l3 k3⟩) ⟨A1, A2, A3, A4, .slice a1 l1 k1⟩ ⟨A1, A2, A3, A4, .slice a1 l1 k1⟩ (lessE_self _ _ _)
  have LAB := fun r h => less_hold (w := w) (A := ⟨A1, A2, A3, A4, .slice a1 l1 k1⟩) (B := ⟨B1, B2, B3, B4, .slice a2 l2 k2⟩) (C := ⟨C1, C2, C3, C4, .slice a3 l3 k3⟩) ⟨A1, A2, A3, A4, .slice a1 l1 k1⟩ ⟨B1, B2, B3, B4, .slice a2 l2 k2⟩ (r := r) h
  have LBA := fun r h => less_hold (w := w) (A := ⟨A1, A2, A3, A4, .slice a1 l1 k1⟩) (B := ⟨B1, B2, B3, B4, .slice a2 l2 k2⟩) (C := ⟨C1, C2, C3, C4, .slice a3 l3 k3⟩) ⟨B1, B2, B3, B4, .slice a2 l2 k2⟩ ⟨A1, A2, A3, A4, .slice a1 l1 k1⟩ (r := r) h
  have LBC := fun r h => less_hold (w := w) (A := ⟨A1, A2, A3, A4, .slice a1 l1 k1⟩) (B := ⟨B1, B2, B3, B4, .slice a2 l2 k2⟩) (C := ⟨C1, C2, C3, C4, .slice a3 l3 k3⟩) ⟨B1, B2, B3, B4, .slice a2 l2 k2⟩ ⟨C1, C2, C3, C4, .slice a3 l3 k3⟩ (r := r) h
  have LAC := fun r h => less_hold (w := w) (A := ⟨A1, A2, A3, A4, .slice a1 l1 k1⟩) (B := ⟨B1, B2, B3, B4, .slice a2 l2 k2⟩) (C := ⟨C1, C2, C3, C4, .slice a3 l3 k3⟩) ⟨A1, A2, A3, A4, .slice a1 l1 k1⟩ ⟨C1, C2, C3, C4, .slice a3 l3 k3⟩ (r := r) h
  dsimp only at LAB LBA LBC LAC
  have hcs := less_cases A1 A2 A3 B1 B2 B3
  have htr := fun h h' => lessE_trans (t := A1) (d := A2) (s := A3) (t' := B1) (d' := B2) (s' := B3) (t'' := C1) (d'' := C2) (s'' := C3) h h'
  go_enter Try.func6, Try.ntmps6
  go_wp2_with fail
  refine (ehead_calls _).mono ?_
  rintro _ w1 ⟨rfl, hb1⟩
  have HH := Lib.hid (HS0.out.below hb1)
  obtain ⟨⟨p0, p1, p2, p3, p4⟩, ⟨q0, q1, q2, q3, q4⟩, ⟨r0, r1, r2, r3, r4⟩, _⟩ := HH.out
  clear hb1 HS0
  go_wp2_with fail
  refine (GA.out _ HH).mono ?_
  rintro _ w2 ⟨g, rfl, HH⟩
  obtain ⟨⟨p0, p1, p2, p3, p4⟩, ⟨q0, q1, q2, q3, q4⟩, ⟨r0, r1, r2, r3, r4⟩, _⟩ := HH.out
  cases g with
  | true =>
    go_wp2
    go_ret
    exact ⟨rfl, HH.out.hb⟩
  | false =>
  go_wp2_with fail
  refine (GB.out _ HH).mono ?_
  rintro _ w3 ⟨g, rfl, HH⟩
  obtain ⟨⟨p0, p1, p2, p3, p4⟩, ⟨q0, q1, q2, q3, q4⟩, ⟨r0, r1, r2, r3, r4⟩, _⟩ := HH.out
  cases g with
  | true =>
    go_wp2
    go_ret
    exact ⟨rfl, HH.out.hb⟩
  | false =>
  go_wp2_with fail
  refine (GC.out _ HH).mono ?_
  rintro _ w4 ⟨g, rfl, HH⟩
  obtain ⟨⟨p0, p1, p2, p3, p4⟩, ⟨q0, q1, q2, q3, q4⟩, ⟨r0, r1, r2, r3, r4⟩, _⟩ := HH.out
  cases g with
  | true =>
    go_wp2
    go_ret
    exact ⟨rfl, HH.out.hb⟩
  | false =>
  clear GA GB GC
  rcases hcs with ⟨hx, hy, hq⟩ | ⟨hx, hy, hq⟩ | ⟨hx, hy, hq1, hq2, hq3⟩
  · have KX := LAB true hx
    have KY := LBA false hy
    cases hz : lessE B1 B2 B3 C1 C2 C3 with
    | true =>
      have KZ := LBC true hz
      have KW := LAC true (htr hx hz)
      clear LAB LBA LBC LAC hx hy hz htr
      rcases hq with hq1 | ⟨hq1, hq2 | ⟨hq2, hq3⟩⟩
      all_goals
        go_wp2_with (go_at_call 33; (first | (with_reducible refine (KX.out _ ?_).mono ?_) | (with_reducible refine (KZ.out _ ?_).mono ?_) | (with_reducible refine (LAA.out _ ?_).mono ?_) | (with_reducible refine (KY.out _ ?_).mono ?_) | (with_reducible refine (KW.out _ ?_).mono ?_)); (exact HH); rintro e wq ⟨rfl, HH⟩; obtain ⟨⟨p0, p1, p2, p3, p4⟩, ⟨q0, q1, q2, q3, q4⟩, ⟨r0, r1, r2, r3, r4⟩, _⟩ := HH.out)
        go_ret
        exact ⟨by first | rfl | simp, HH.out.hb⟩
    | false =>
      have KZ := LBC false hz
      have KW := LAC _ rfl
      clear LAB LBA LBC LAC hx hy hz htr
      rcases hq with hq1 | ⟨hq1, hq2 | ⟨hq2, hq3⟩⟩
      all_goals
        go_wp2_with (go_at_call 33; (first | (with_reducible refine (KX.out _ ?_).mono ?_) | (with_reducible refine (KZ.out _ ?_).mono ?_) | (with_reducible refine (LAA.out _ ?_).mono ?_) | (with_reducible refine (KY.out _ ?_).mono ?_) | (with_reducible refine (KW.out _ ?_).mono ?_)); (exact HH); rintro e wq ⟨rfl, HH⟩; obtain ⟨⟨p0, p1, p2, p3, p4⟩, ⟨q0, q1, q2, q3, q4⟩, ⟨r0, r1, r2, r3, r4⟩, _⟩ := HH.out)
        go_ret
        exact ⟨by first | rfl | simp, HH.out.hb⟩
  · have KX := LAB false hx
    have KY := LBA true hy
    have KZ := LBC _ rfl
    have KW := LAC _ rfl
    generalize lessE B1 B2 B3 C1 C2 C3 = z at KZ
    clear LAB LBA LBC LAC hx hy htr
    rcases hq with hq1 | ⟨hq1, hq2 | ⟨hq2, hq3⟩⟩
    all_goals
      go_wp2_with (go_at_call 33; (first | (with_reducible refine (KX.out _ ?_).mono ?_) | (with_reducible refine (KZ.out _ ?_).mono ?_) | (with_reducible refine (LAA.out _ ?_).mono ?_) | (with_reducible refine (KY.out _ ?_).mono ?_) | (with_reducible refine (KW.out _ ?_).mono ?_)); (exact HH); rintro e wq ⟨rfl, HH⟩; obtain ⟨⟨p0, p1, p2, p3, p4⟩, ⟨q0, q1, q2, q3, q4⟩, ⟨r0, r1, r2, r3, r4⟩, _⟩ := HH.out)
      go_ret
      exact ⟨by first | rfl | simp, HH.out.hb⟩
  · have KX := LAB false hx
    have KY := LBA false hy
    have KZ := LBC _ rfl
    have KW := LAC _ rfl
    generalize lessE B1 B2 B3 C1 C2 C3 = z at KZ
    clear LAB LBA LBC LAC hx hy htr
    go_wp2_with (go_at_call 33; (first | (with_reducible refine (KX.out _ ?_).mono ?_) | (with_reducible refine (KZ.out _ ?_).mono ?_) | (with_reducible refine (LAA.out _ ?_).mono ?_) | (with_reducible refine (KY.out _ ?_).mono ?_) | (with_reducible refine (KW.out _ ?_).mono ?_)); (exact HH); rintro e wq ⟨rfl, HH⟩; obtain ⟨⟨p0, p1, p2, p3, p4⟩, ⟨q0, q1, q2, q3, q4⟩, ⟨r0, r1, r2, r3, r4⟩, _⟩ := HH.out)
    go_ret
    exact ⟨by first | rfl | simp, HH.out.hb⟩

end Go.Proofs.Ytppgecbjdkfohaa
