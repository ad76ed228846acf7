/- Events: GreatEvent; values and events that came in. | The statement EventOrder, its walk. | Order: cells of a row that are overwritten; copy of elements of many cells. | Order: slices.Insert of one event. | Order: slices.Insert ahead of what stands there, in place. | Order: slices.Insert into a new row; slices.Insert. -/
import Derived.Test.YtfmlgckfcclojaaM5
import Derived.Maps.AppendAt
import Derived.Deep.RegionLaw
import Derived.ProofKit
import Derived.OpenShut
import Derived.ShutString
import Derived.ChangeOld
import Derived.Deep.Strs
import Derived.Lib.SmallJoins
import Derived.Laws.IdiomCopy
import Derived.Laws.OwnMore
import Derived.Lib.AppendZerosOnto
import Derived.Lib.Overlaps
import Derived.Laws.Externs
namespace Go.Proofs.Ytfmlgckfcclojaa
open Go.ChangeShapes Go.WideShapes Go.ChangeAt Go.RowKit Go.Lib Go.Deep
open Go.ChangeMaps (open_string shut_string)

theorem eown_ : ownKnob Try.prog.godebug = none := by kernel_rfl
theorem elaidOut : laidOutB Try.prog = true := by kernel_rfl

instance : Inhabited VIn := ⟨(0, 0, .empty)⟩

section
variable {H : Type} {enc : TypeId × Value → H} {w : World} {base : Nat} {spare : Nat → Bool} {held : Bool}

set_option maxRecDepth 100000 in
/-- Values that came in. -/
theorem open_vals {fuel : Nat} {a : Option Addr} {len cap : Nat} {x : DataW H × List MemPlace} (h : DataW.trod enc Try.prog w base spare held fuel 23 [.slice a len cap] = some x) :
    ∃ vs : List VIn, len = vs.length ∧ vs.length ≤ maxLen ∧ VRow w a vs := by
  rcases open_slice Try.underlying23 h with ⟨hcs, _⟩ | ⟨A, l, c, m, n, D, Pl, hcs, _, hl, hm, hmm, _, hx⟩
  · simp at hcs
    obtain ⟨rfl, rfl, rfl⟩ := hcs
    exact ⟨[], rfl, Nat.zero_le _, fun j s hj => by simp at hj⟩
  · simp at hcs
    obtain ⟨rfl, rfl, rfl⟩ := hcs
    have hlm : len ≤ m := by rw [hmm]; split <;> omega
    have c3 : Try.prog.cellsOf 52 = 3 := by kernel_rfl
    have hall : ∀ i, i < len → ∃ q : VIn, w.cell? (A.add (i * 3)) = some (.int .i64 q.1) ∧ w.cell? (efld A 3 i 1) = some (.int .i64 q.2.1) ∧ w.cell? (efld A 3 i 2) = some (.string q.2.2) ∧ q.2.2.size ≤ maxLen := fun i hi => by
      obtain ⟨cs', h1, h2⟩ := hx i (by omega)
      rw [c3] at h1
      obtain ⟨_, hlen, hcell⟩ := World.cells?_some h1
      obtain ⟨xs, k, hk, hxy, _, hxl, hf⟩ := DataW.trod_struct Try.underlying52 h2
      match xs, hxl, cs', hlen with
      | [y0, y1, y2], _, [v0, v1, v2], _ =>
        have k0 : Try.prog.cellsOf 3 = 1 := by kernel_rfl
        have k1 : Try.prog.cellsOf 2 = 1 := by kernel_rfl
        have k2 : Try.prog.cellsOf 9 = 1 := by kernel_rfl
        have g0 := hf 0 _ rfl
        have g1 := hf 1 _ rfl
        have g2 := hf 2 _ rfl
        simp [k0] at g0
        simp [k1] at g1
        simp [k2] at g2
        have e0 : w.cell? (A.add (i * 3)) = some v0 := hcell 0 (by omega)
        have e1 : w.cell? (efld A 3 i 1) = some v1 := hcell 1 (by omega)
        have e2 : w.cell? (efld A 3 i 2) = some v2 := hcell 2 (by omega)
        obtain ⟨n0, hv0, _, wf0⟩ := DataW.trod_int Try.underlying3 g0
        obtain ⟨n1, hv1, _, wf1⟩ := DataW.trod_int Try.underlying2 g1
        obtain ⟨s2, hv2, _, hs2⟩ := DataW.trod_string Try.underlying9 g2
        simp at hv0 hv1 hv2
        subst hv0 hv1 hv2
        exact ⟨(n0, n1, s2), e0, e1, e2, hs2⟩
    obtain ⟨q, hq⟩ := choose_lt hall
    refine ⟨(List.range len).map q, by simp, by simp; omega, fun j o hj => ⟨A, rfl, ?_⟩⟩
    obtain ⟨hjl, rfl⟩ := List.getElem?_eq_some_iff.1 hj
    simp at hjl ⊢
    exact hq j hjl

set_option maxRecDepth 100000 in
/-- An event that came in. -/
theorem open_event {b0 : Nat} {v : Value} {d : DataW H} {p : List MemPlace} (hv : Value.okWide Try.prog w .any b0 25 v) (h : DataW.Trod enc Try.prog w base spare held 25 v d p) :
    ∃ (t dp s : Int) (n : ByteArray) (a : Option Addr) (c : Nat) (vs : List VIn), v = evV t dp s n (.slice a vs.length c) ∧ n.size ≤ maxLen ∧ vs.length ≤ maxLen ∧ VRow w a vs := by
  obtain ⟨cs, rfl, hsz⟩ := okWide_struct Try.underlying25 hv
  obtain ⟨fuel, hf⟩ := h
  obtain ⟨xs, k, hk, hxy, _, hxl, hF⟩ := DataW.trod_struct Try.underlying25 hf
  have c5 : Try.prog.cellsOf 25 = 5 := by kernel_rfl
  obtain ⟨cl⟩ := cs
  rw [c5] at hsz
  simp at hsz
  match xs, hxl, cl, hsz with
  | [y0, y1, y2, y3, y4], _, [v0, v1, v2, v3, v4], _ =>
    have k0 : Try.prog.cellsOf 2 = 1 := by kernel_rfl
    have k1 : Try.prog.cellsOf 3 = 1 := by kernel_rfl
    have k3 : Try.prog.cellsOf 9 = 1 := by kernel_rfl
    have k4 : Try.prog.cellsOf 23 = 1 := by kernel_rfl
    have g0 := hF 0 _ rfl
    have g1 := hF 1 _ rfl
    have g2 := hF 2 _ rfl
    have g3 := hF 3 _ rfl
    have g4 := hF 4 _ rfl
    simp [k0, Value.cells] at g0
    simp [k1, Value.cells] at g1
    simp [k0, Value.cells] at g2
    simp [k3, Value.cells] at g3
    simp [k4, Value.cells] at g4
    obtain ⟨n0, hv0, _, _⟩ := DataW.trod_int Try.underlying2 g0
    obtain ⟨n1, hv1, _, _⟩ := DataW.trod_int Try.underlying3 g1
    obtain ⟨n2, hv2, _, _⟩ := DataW.trod_int Try.underlying2 g2
    obtain ⟨s3, hv3, _, hs3⟩ := DataW.trod_string Try.underlying9 g3
    simp at hv0 hv1 hv2 hv3
    subst hv0 hv1 hv2 hv3
    obtain ⟨a4, l4, c4, rfl⟩ : ∃ a l c, v4 = .slice a l c := by
      rcases DataW.trod_slice Try.underlying23 g4 with ⟨h, _⟩ | ⟨a, l, c, _, _, _, _, h, _⟩
      · simp at h; exact ⟨_, _, _, h⟩
      · simp at h; exact ⟨_, _, _, h⟩
    obtain ⟨vs, rfl, hl, hr⟩ := open_vals g4
    exact ⟨n0, n1, n2, s3, a4, c4, vs, rfl, hs3, hl, hr⟩
end

/-- What GreatEvent answers: some truth. -/
def GreatP (w : World) (e : Ending) (w' : World) : Prop := ∃ g : Bool, e = .returned (.bool g) ∧ Below w.heap.size w w'

set_option maxHeartbeats 2000000 in
set_option maxRecDepth 100000 in
theorem greatE_calls (t d s : Int) (n : ByteArray) (a : Option Addr) (c : Nat) (vs : List VIn) (w : World) (_hn : n.size ≤ maxLen) (hv : VRow w a vs) (hl : vs.length ≤ maxLen) :
    Calls Try.prog 16 #[evV t d s n (.slice a vs.length c)] w (GreatP w) := by
  have hb0 : Below w.heap.size w (w.alloc (.cells #[.int .i64 t, .int .i64 d, .int .i64 s, .string n, .slice a vs.length c] 25)) := (Below.refl _ _).alloc (Nat.le_refl _) _
  have HV := Lib.hid (hv.below hb0)
  obtain ⟨l, hll⟩ : ∃ l, vs.length = l := ⟨_, rfl⟩
  have Hl := Lib.hid hll
  rw [hll] at hl hb0 HV ⊢
  have HB0 := Lib.hid hb0
  unfold maxLen at hl
  clear hv hll hb0
  go_enter Try.func16, Try.ntmps16
  go_wp2
  go_loop [3, 4] (fun x i => ∃ (k : Nat) (m : Int), i = .int .i64 k ∧ k ≤ l ∧ x = .int .i64 m) (fun _ i => l - (intOf i).toNat)
  case atStart => exact ⟨0, _, rfl, Nat.zero_le _, rfl⟩
  case round =>
    obtain ⟨k, m, rfl, hk, rfl⟩ := hrel
    by_cases hlt : k < l
    · by_cases hm : m < 9000
      · obtain ⟨x, hx⟩ : ∃ x, vs[k]? = some x := ⟨_, List.getElem?_eq_getElem (by rw [Hl.out]; exact hlt)⟩
        obtain ⟨A, rfl, c0, c1, c2, hs⟩ := HV.out k x hx
        obtain ⟨k1, n1, s1⟩ := x
        dsimp only at c0 c1 c2 hs
        unfold efld at c1 c2
        have hd : decide (m < 9000) = true := by simpa using hm
        clear hx
        go_wp2
        go_round
        case rel => exact ⟨k + 1, _, by go_num, by omega, rfl⟩
        case measure => simp [intOf]; omega
      · have hd : decide (m < 9000) = false := by simpa using hm
        go_wp2
        go_ret
        exact ⟨_, rfl, HB0.out⟩
    · go_wp2
      go_ret
      exact ⟨_, rfl, HB0.out⟩

end Go.Proofs.Ytfmlgckfcclojaa
namespace Go.Proofs.Ytfmlgckfcclojaa
open Go.RowKit Go.Lib Go.Op

/-- An event that came in. -/
structure EvIn where
  t : Int
  d : Int
  s : Int
  n : ByteArray
  v : Value
abbrev evI (e : EvIn) : Value := .agg #[.int .i64 e.t, .int .i64 e.d, .int .i64 e.s, .string e.n, e.v]

/-- Its cells. -/
def EC (b : Nat) (e : EvIn) (W : World) : Prop := W.cell? ⟨b, 0, none⟩ = some (.int .i64 e.t) ∧ W.cell? ⟨b, 1, none⟩ = some (.int .i64 e.d) ∧ W.cell? ⟨b, 2, none⟩ = some (.int .i64 e.s) ∧ W.cell? ⟨b, 3, none⟩ = some (.string e.n) ∧ W.cell? ⟨b, 4, none⟩ = some e.v
theorem EC.below {b : Nat} {e : EvIn} {W W' : World} (h : EC b e W) (hb : Below W.heap.size W W') : EC b e W' := ⟨ekeep hb h.1, ekeep hb h.2.1, ekeep hb h.2.2.1, ekeep hb h.2.2.2.1, ekeep hb h.2.2.2.2⟩
theorem EC.new (W : World) (e : EvIn) {b : Nat} (hb : b = W.heap.size) : EC b e (W.alloc (.cells #[.int .i64 e.t, .int .i64 e.d, .int .i64 e.s, .string e.n, e.v] 25)) :=
  ⟨new_cell _ _ _ hb rfl, new_cell _ _ _ hb rfl, new_cell _ _ _ hb rfl, new_cell _ _ _ hb rfl, new_cell _ _ _ hb rfl⟩

/-- Three events in their boxes. -/
structure OW (w : World) (A B C : EvIn) (W : World) : Prop where
  a : EC w.heap.size A W
  b : EC (w.heap.size + 1) B W
  c : EC (w.heap.size + 1 + 1) C W
  hb : Below w.heap.size w W
theorem OW.below {w : World} {A B C : EvIn} {W W' : World} (h : OW w A B C W) (hb : Below W.heap.size W W') : OW w A B C W' := ⟨h.a.below hb, h.b.below hb, h.c.below hb, h.hb.trans (hb.mono h.hb.size)⟩
theorem OW.start (w : World) (A B C : EvIn) : OW w A B C (((w.alloc (.cells #[.int .i64 A.t, .int .i64 A.d, .int .i64 A.s, .string A.n, A.v] 25)).alloc (.cells #[.int .i64 B.t, .int .i64 B.d, .int .i64 B.s, .string B.n, B.v] 25)).alloc (.cells #[.int .i64 C.t, .int .i64 C.d, .int .i64 C.s, .string C.n, C.v] 25)) where
  a := ((EC.new _ _ rfl).below ((Below.refl _ _).alloc (Nat.le_refl _) _)).below ((Below.refl _ _).alloc (Nat.le_refl _) _)
  b := (EC.new _ _ (by simp)).below ((Below.refl _ _).alloc (Nat.le_refl _) _)
  c := EC.new _ _ (by simp)
  hb := by repeat' (first | exact Below.refl _ _ | refine Below.alloc ?_ (by simp <;> omega) _)

theorem lessE_self (t d s : Int) : lessE t d s t d s = false := decide_eq_false (by omega)
theorem lessE_trans {t d s t' d' s' t'' d'' s'' : Int} (h : lessE t d s t' d' s' = true) (h' : lessE t' d' s' t'' d'' s'' = true) : lessE t d s t'' d'' s'' = true := by
  have h1 := of_decide_eq_true h
  have h2 := of_decide_eq_true h'
  exact decide_eq_true (by omega)
theorem beqI_true {a b : Int} (h : a = b) : (a == b) = true := by rw [beq_iff_eq]; exact h
theorem beqI_false {a b : Int} (h : a ≠ b) : (a == b) = false := by rw [beq_eq_false_iff_ne]; exact h
theorem less_cases (t d s t' d' s' : Int) :
    (lessE t d s t' d' s' = true ∧ lessE t' d' s' t d s = false ∧ ((t == t') = false ∨ (t == t') = true ∧ ((d == d') = false ∨ (d == d') = true ∧ (s == s') = false))) ∨
    (lessE t d s t' d' s' = false ∧ lessE t' d' s' t d s = true ∧ ((t == t') = false ∨ (t == t') = true ∧ ((d == d') = false ∨ (d == d') = true ∧ (s == s') = false))) ∨
    (lessE t d s t' d' s' = false ∧ lessE t' d' s' t d s = false ∧ (t == t') = true ∧ (d == d') = true ∧ (s == s') = true) := by
  rcases Int.lt_trichotomy t t' with h | h | h
  · exact .inl ⟨decide_eq_true (by omega), decide_eq_false (by omega), .inl (beqI_false (by omega))⟩
  · rcases Int.lt_trichotomy d d' with h1 | h1 | h1
    · exact .inl ⟨decide_eq_true (by omega), decide_eq_false (by omega), .inr ⟨beqI_true h, .inl (beqI_false (by omega))⟩⟩
    · rcases Int.lt_trichotomy s s' with h2 | h2 | h2
      · exact .inl ⟨decide_eq_true (by omega), decide_eq_false (by omega), .inr ⟨beqI_true h, .inr ⟨beqI_true h1, beqI_false (by omega)⟩⟩⟩
      · exact .inr (.inr ⟨decide_eq_false (by omega), decide_eq_false (by omega), beqI_true h, beqI_true h1, beqI_true h2⟩)
      · exact .inr (.inl ⟨decide_eq_false (by omega), decide_eq_true (by omega), .inr ⟨beqI_true h, .inr ⟨beqI_true h1, beqI_false (by omega)⟩⟩⟩)
    · exact .inr (.inl ⟨decide_eq_false (by omega), decide_eq_true (by omega), .inr ⟨beqI_true h, .inl (beqI_false (by omega))⟩⟩)
  · exact .inr (.inl ⟨decide_eq_false (by omega), decide_eq_true (by omega), .inl (beqI_false (by omega))⟩)

/-- What GreatEvent leaves. -/
def GreatQ (P : World → Prop) (e : Ending) (w' : World) : Prop := ∃ g : Bool, e = .returned (.bool g) ∧ Hid (P w')

theorem less_hold {w : World} {A B C : EvIn} (X Y : EvIn) {r : Bool} (h : lessE X.t X.d X.s Y.t Y.d Y.s = r) : Hid (∀ W : World, Hid (OW w A B C W) → Calls Try.prog 33 #[evI X, evI Y] W fun e w' => e = .returned (.bool r) ∧ Hid (OW w A B C w')) := fun W hW => by
  have h1 := less_calls X.t X.d X.s X.n X.v Y.t Y.d Y.s Y.n Y.v W
  rw [h] at h1
  exact h1.mono fun e w' ⟨h2, h3⟩ => ⟨h2, hW.out.below h3⟩

theorem great_hold {w : World} {A B C : EvIn} (X : EvIn) (hn : X.n.size ≤ maxLen) {a : Option Addr} {c : Nat} {vs : List VIn} (hv : X.v = .slice a vs.length c) (hr : VRow w a vs) (hl : vs.length ≤ maxLen) : Hid (∀ W : World, Hid (OW w A B C W) → Calls Try.prog 16 #[evI X] W (GreatQ (OW w A B C))) := fun W hW => by
  obtain ⟨t, d, s, n, v⟩ := X
  dsimp only at hn hv
  subst hv
  exact (greatE_calls t d s n a c vs W hn (hr.below hW.out.hb) hl).mono fun e w' ⟨g, h1, h2⟩ => ⟨g, h1, hW.out.below h2⟩

set_option maxHeartbeats 8000000 in
set_option maxRecDepth 100000 in
theorem order_walk (w : World) (A B C : EvIn) (GA : Hid (∀ W : World, Hid (OW w A B C W) → Calls Try.prog 16 #[evI A] W (GreatQ (OW w A B C)))) (GB : Hid (∀ W : World, Hid (OW w A B C W) → Calls Try.prog 16 #[evI B] W (GreatQ (OW w A B C)))) (GC : Hid (∀ W : World, Hid (OW w A B C W) → Calls Try.prog 16 #[evI C] W (GreatQ (OW w A B C))))
    (vA : ∃ a l c, A.v = .slice a l c) (vB : ∃ a l c, B.v = .slice a l c) (vC : ∃ a l c, C.v = .slice a l c) :
    Calls Try.prog 6 #[evI A, evI B, evI C] w (EFine w) := by
  obtain ⟨A1, A2, A3, A4, A5⟩ := A
  obtain ⟨B1, B2, B3, B4, B5⟩ := B
  obtain ⟨C1, C2, C3, C4, C5⟩ := C
  obtain ⟨a1, l1, k1, e1⟩ := vA
  obtain ⟨a2, l2, k2, e2⟩ := vB
  obtain ⟨a3, l3, k3, e3⟩ := vC
  dsimp only at e1 e2 e3
  subst e1 e2 e3
  have HS0 := Lib.hid (OW.start w ⟨A1, A2, A3, A4, .slice a1 l1 k1⟩ ⟨B1, B2, B3, B4, .slice a2 l2 k2⟩ ⟨C1, C2, C3, C4, .slice a3 l3 k3⟩)
  have LAA := less_hold (w := w) (A := ⟨A1, A2, A3, A4, .slice a1 l1 k1⟩) (B := ⟨B1, B2, B3, B4, .slice a2 l2 k2⟩) (C := ⟨C1, C2, C3, C4, .slice a3 l3 k3⟩) ⟨A1, A2, A3, A4, .slice a1 l1 k1⟩ ⟨A1, A2, A3, A4, .slice a1 l1 k1⟩ (lessE_self _ _ _)
  have LAB := fun r h => less_hold (w := w) (A := ⟨A1, A2, A3, A4, .slice a1 l1 k1⟩) (B := ⟨B1, B2, B3, B4, .slice a2 l2 k2⟩) (C := ⟨C1, C2, C3, C4, .slice a3 l3 k3⟩) ⟨A1, A2, A3, A4, .slice a1 l1 k1⟩ ⟨B1, B2, B3, B4, .slice a2 l2 k2⟩ (r := r) h
  have LBA := fun r h => less_hold (w := w) (A := ⟨A1, A2, A3, A4, .slice a1 l1 k1⟩) (B := ⟨B1, B2, B3, B4, .slice a2 l2 k2⟩) (C := ⟨C1, C2, C3, C4, .slice a3 l3 k3⟩) ⟨B1, B2, B3, B4, .slice a2 l2 k2⟩ ⟨A1, A2, A3, A4, .slice a1 l1 k1⟩ (r := r) h
  have LBC := fun r h => less_hold (w := w) (A := ⟨A1, A2, A3, A4, .slice a1 l1 k1⟩) (B := ⟨B1, B2, B3, B4, .slice a2 l2 k2⟩) (C := ⟨C1, C2, C3, C4, .slice a3 l3 k3⟩) ⟨B1, B2, B3, B4, .slice a2 l2 k2⟩ ⟨C1, C2, C3, C4, .slice a3 l3 k3⟩ (r := r) h
  have LAC := fun r h => less_hold (w := w) (A := ⟨A1, A2, A3, A4, .slice a1 l1 k1⟩) (B := ⟨B1, B2, B3, B4, .slice a2 l2 k2⟩) (C := ⟨C1, C2, C3, C4, .slice a3 l3 k3⟩) ⟨A1, A2, A3, A4, .slice a1 l1 k1⟩ ⟨C1, C2, C3, C4, .slice a3 l3 k3⟩ (r := r) h
  dsimp only at LAB LBA LBC LAC
  have hcs := less_cases A1 A2 A3 B1 B2 B3
  have htr := fun h h' => lessE_trans (t := A1) (d := A2) (s := A3) (t' := B1) (d' := B2) (s' := B3) (t'' := C1) (d'' := C2) (s'' := C3) h h'
  go_enter Try.func6, Try.ntmps6
  go_wp2_with fail
  refine (ehead_calls _).mono ?_
  rintro _ w1 ⟨rfl, hb1⟩
  have HH := Lib.hid (HS0.out.below hb1)
  obtain ⟨⟨p0, p1, p2, p3, p4⟩, ⟨q0, q1, q2, q3, q4⟩, ⟨r0, r1, r2, r3, r4⟩, _⟩ := HH.out
  clear hb1 HS0
  go_wp2_with fail
  refine (GA.out _ HH).mono ?_
  rintro _ w2 ⟨g, rfl, HH⟩
  obtain ⟨⟨p0, p1, p2, p3, p4⟩, ⟨q0, q1, q2, q3, q4⟩, ⟨r0, r1, r2, r3, r4⟩, _⟩ := HH.out
  cases g with
  | true =>
    go_wp2
    go_ret
    exact ⟨rfl, HH.out.hb⟩
  | false =>
  go_wp2_with fail
  refine (GB.out _ HH).mono ?_
  rintro _ w3 ⟨g, rfl, HH⟩
  obtain ⟨⟨p0, p1, p2, p3, p4⟩, ⟨q0, q1, q2, q3, q4⟩, ⟨r0, r1, r2, r3, r4⟩, _⟩ := HH.out
  cases g with
  | true =>
    go_wp2
    go_ret
    exact ⟨rfl, HH.out.hb⟩
  | false =>
  go_wp2_with fail
  refine (GC.out _ HH).mono ?_
  rintro _ w4 ⟨g, rfl, HH⟩
  obtain ⟨⟨p0, p1, p2, p3, p4⟩, ⟨q0, q1, q2, q3, q4⟩, ⟨r0, r1, r2, r3, r4⟩, _⟩ := HH.out
  cases g with
  | true =>
    go_wp2
    go_ret
    exact ⟨rfl, HH.out.hb⟩
  | false =>
  clear GA GB GC
  rcases hcs with ⟨hx, hy, hq⟩ | ⟨hx, hy, hq⟩ | ⟨hx, hy, hq1, hq2, hq3⟩
  · have KX := LAB true hx
    have KY := LBA false hy
    cases hz : lessE B1 B2 B3 C1 C2 C3 with
    | true =>
      have KZ := LBC true hz
      have KW := LAC true (htr hx hz)
      clear LAB LBA LBC LAC hx hy hz htr
      rcases hq with hq1 | ⟨hq1, hq2 | ⟨hq2, hq3⟩⟩
      all_goals
        go_wp2_with (go_at_call 33; (first | (with_reducible refine (KX.out _ ?_).mono ?_) | (with_reducible refine (KZ.out _ ?_).mono ?_) | (with_reducible refine (LAA.out _ ?_).mono ?_) | (with_reducible refine (KY.out _ ?_).mono ?_) | (with_reducible refine (KW.out _ ?_).mono ?_)); (exact HH); rintro e wq ⟨rfl, HH⟩; obtain ⟨⟨p0, p1, p2, p3, p4⟩, ⟨q0, q1, q2, q3, q4⟩, ⟨r0, r1, r2, r3, r4⟩, _⟩ := HH.out)
        go_ret
        exact ⟨by first | rfl | simp, HH.out.hb⟩
    | false =>
      have KZ := LBC false hz
      have KW := LAC _ rfl
      clear LAB LBA LBC LAC hx hy hz htr
      rcases hq with hq1 | ⟨hq1, hq2 | ⟨hq2, hq3⟩⟩
      all_goals
        go_wp2_with (go_at_call 33; (first | (with_reducible refine (KX.out _ ?_).mono ?_) | (with_reducible refine (KZ.out _ ?_).mono ?_) | (with_reducible refine (LAA.out _ ?_).mono ?_) | (with_reducible refine (KY.out _ ?_).mono ?_) | (with_reducible refine (KW.out _ ?_).mono ?_)); (exact HH); rintro e wq ⟨rfl, HH⟩; obtain ⟨⟨p0, p1, p2, p3, p4⟩, ⟨q0, q1, q2, q3, q4⟩, ⟨r0, r1, r2, r3, r4⟩, _⟩ := HH.out)
        go_ret
        exact ⟨by first | rfl | simp, HH.out.hb⟩
  · have KX := LAB false hx
    have KY := LBA true hy
    have KZ := LBC _ rfl
    have KW := LAC _ rfl
    generalize lessE B1 B2 B3 C1 C2 C3 = z at KZ
    clear LAB LBA LBC LAC hx hy htr
    rcases hq with hq1 | ⟨hq1, hq2 | ⟨hq2, hq3⟩⟩
    all_goals
      go_wp2_with (go_at_call 33; (first | (with_reducible refine (KX.out _ ?_).mono ?_) | (with_reducible refine (KZ.out _ ?_).mono ?_) | (with_reducible refine (LAA.out _ ?_).mono ?_) | (with_reducible refine (KY.out _ ?_).mono ?_) | (with_reducible refine (KW.out _ ?_).mono ?_)); (exact HH); rintro e wq ⟨rfl, HH⟩; obtain ⟨⟨p0, p1, p2, p3, p4⟩, ⟨q0, q1, q2, q3, q4⟩, ⟨r0, r1, r2, r3, r4⟩, _⟩ := HH.out)
      go_ret
      exact ⟨by first | rfl | simp, HH.out.hb⟩
  · have KX := LAB false hx
    have KY := LBA false hy
    have KZ := LBC _ rfl
    have KW := LAC _ rfl
    generalize lessE B1 B2 B3 C1 C2 C3 = z at KZ
    clear LAB LBA LBC LAC hx hy htr
    go_wp2_with (go_at_call 33; (first | (with_reducible refine (KX.out _ ?_).mono ?_) | (with_reducible refine (KZ.out _ ?_).mono ?_) | (with_reducible refine (LAA.out _ ?_).mono ?_) | (with_reducible refine (KY.out _ ?_).mono ?_) | (with_reducible refine (KW.out _ ?_).mono ?_)); (exact HH); rintro e wq ⟨rfl, HH⟩; obtain ⟨⟨p0, p1, p2, p3, p4⟩, ⟨q0, q1, q2, q3, q4⟩, ⟨r0, r1, r2, r3, r4⟩, _⟩ := HH.out)
    go_ret
    exact ⟨by first | rfl | simp, HH.out.hb⟩

end Go.Proofs.Ytfmlgckfcclojaa
namespace Go.Proofs.Ytfmlgckfcclojaa
open Go.RowKit Go.Lib Go.Op

/-- What stays as it was: all but the blocks of K. -/
structure OFr (K : Nat → Prop) (w w' : World) : Prop where
  os : w'.os = w.os
  tape : w'.tape = w.tape
  output : w'.output = w.output
  size : w.heap.size ≤ w'.heap.size
  block : ∀ k, k < w.heap.size → ¬ K k → w'.heap[k]? = w.heap[k]?

section
variable {K K' : Nat → Prop} {a b c w w' : World}
theorem OFr.refl (K : Nat → Prop) (w : World) : OFr K w w := ⟨rfl, rfl, rfl, Nat.le_refl _, fun _ _ _ => rfl⟩
theorem OFr.trans (h : OFr K a b) (k : OFr K b c) : OFr K a c :=
  ⟨k.os.trans h.os, k.tape.trans h.tape, k.output.trans h.output, Nat.le_trans h.size k.size, fun i hi hn => (k.block i (Nat.lt_of_lt_of_le hi h.size) hn).trans (h.block i hi hn)⟩
theorem OFr.mono (h : OFr K a b) (hs : ∀ k, k < a.heap.size → K k → K' k) : OFr K' a b := ⟨h.os, h.tape, h.output, h.size, fun i hi hn => h.block i hi (fun e => hn (hs i hi e))⟩
theorem OFr.drew (h : OFr K w w') : OFr K w w'.drew := ⟨h.os, h.tape, h.output, h.size, h.block⟩
theorem OFr.alloc (h : OFr K w w') (o : Obj) : OFr K w (w'.alloc o) := ⟨h.os, h.tape, h.output, Nat.le_trans h.size (by simp), fun k hk hn => (heap_alloc_old w' o (Nat.lt_of_lt_of_le hk h.size)).trans (h.block k hk hn)⟩
theorem OFr.setCell (h : OFr K w w') {p : Addr} (hp : p.block < w.heap.size → K p.block) (v : Value) : OFr K w (w'.setCell p v) :=
  ⟨h.os, h.tape, h.output, by simpa using h.size, fun k hk hn => (heap_setCell_other w' p k v (fun e => hn (e ▸ hp (e ▸ hk)))).trans (h.block k hk hn)⟩
theorem OFr.of_below (h : Below w.heap.size w w') : OFr K w w' := ⟨h.os, h.tape, h.output, h.size, fun k hk _ => h.block k hk⟩
theorem OFr.of_grown {row : Option Nat} (h : w.grownBy w' row) (hk : ∀ k, row = some k → K k) : OFr K w w' := ⟨h.os, h.tape, h.output, h.size, fun k hl hn => h.block k hl (fun e => hn (hk k e.symm))⟩
theorem OFr.below (h : OFr K w w') {B : Nat} (hB : B ≤ w.heap.size) (hk : ∀ k, K k → B ≤ k) : Below B w w' := ⟨h.os, h.tape, h.output, h.size, fun k hl => h.block k (by omega) (fun e => by have := hk k e; omega)⟩
theorem OFr.cell (h : OFr K w w') {p : Addr} {v : Value} (hc : w.cell? p = some v) (hp : ¬ K p.block) : w'.cell? p = some v := (World.cell?_of_block (h.block _ (World.block_lt_of_cell? _ _ hc) hp)).trans hc
end

theorem setCells_other (b : Nat) : ∀ (vs : List Value) (o : Nat) (w : World) (k : Nat), k ≠ b → (w.setCells b o vs).heap[k]? = w.heap[k]?
  | [], _, _, _, _ => rfl
  | v :: r, o, w, k, hk => by rw [World.setCells, setCells_other b r _ _ k hk, heap_setCell_other _ _ _ _ hk]
theorem setCells_size (b : Nat) : ∀ (vs : List Value) (o : Nat) (w : World), (w.setCells b o vs).heap.size = w.heap.size
  | [], _, _ => rfl
  | v :: r, o, w => by rw [World.setCells, setCells_size b r]; simp
theorem setCells_os (b : Nat) : ∀ (vs : List Value) (o : Nat) (w : World), (w.setCells b o vs).os = w.os ∧ (w.setCells b o vs).tape = w.tape ∧ (w.setCells b o vs).output = w.output
  | [], _, _ => ⟨rfl, rfl, rfl⟩
  | v :: r, o, w => by
    rw [World.setCells]
    exact setCells_os b r (o + 1) _

theorem OFr.setCells {K : Nat → Prop} {w w' : World} (h : OFr K w w') {b : Nat} (hb : b < w.heap.size → K b) (o : Nat) (vs : List Value) : OFr K w (w'.setCells b o vs) := by
  obtain ⟨h1, h2, h3⟩ := setCells_os b vs o w'
  exact ⟨h1.trans h.os, h2.trans h.tape, h3.trans h.output, by rw [setCells_size]; exact h.size, fun k hk hn => (setCells_other b vs o w' k (fun e => hn (e ▸ hb (e ▸ hk)))).trans (h.block k hk hn)⟩

/-- A list, some of whose places hold something else. -/
def putL (l : List Value) (o : Nat) (vs : List Value) : List Value := l.take o ++ vs ++ l.drop (o + vs.length)

theorem putL_cons (l : List Value) (o : Nat) (v : Value) (r : List Value) (h : o + (r.length + 1) ≤ l.length) : putL (l.set o v) (o + 1) r = putL l o (v :: r) := by
  unfold putL
  have h1 : (l.set o v).take (o + 1) = l.take o ++ [v] := by
    rw [List.take_succ_eq_append_getElem (by rw [List.length_set]; omega), List.take_set_of_le (Nat.le_refl _)]
    simp
  have h2 : (l.set o v).drop (o + 1 + r.length) = l.drop (o + (r.length + 1)) := by
    rw [List.drop_set_of_lt (by omega)]
    congr 1
    omega
  rw [h1, h2]
  simp

theorem heap_setCells (b : Nat) (e : TypeId) : ∀ (vs : List Value) (o : Nat) (w : World) (cur : Array Value), w.heap[b]? = some (.cells cur e (0, 0)) → o + vs.length ≤ cur.size → ∃ cur' : Array Value, (w.setCells b o vs).heap[b]? = some (.cells cur' e (0, 0)) ∧ cur'.toList = putL cur.toList o vs ∧ cur'.size = cur.size
  | [], o, w, cur, h, _ => ⟨cur, h, by simp [putL], rfl⟩
  | v :: r, o, w, cur, h, hl => by
    rw [List.length_cons] at hl
    obtain ⟨cur', h1, h2, h3⟩ := heap_setCells b e r (o + 1) (w.setCell ⟨b, o, none⟩ v) (cur.setIfInBounds o v) (heap_setCell_same w b o cur e v h) (by rw [Array.size_setIfInBounds]; omega)
    refine ⟨cur', h1, ?_, by rw [h3, Array.size_setIfInBounds]⟩
    rw [h2, Array.toList_setIfInBounds]
    exact putL_cons _ _ _ _ (by rw [Array.length_toList]; exact hl)

/-- 'copy' of elements of many cells: all is read ahead of anything that is written. -/
theorem run_copy_many {P : Program} (w : World) (dT sT ty elem : TypeId) (b o dLen dCap : Nat) (a : Addr) (sLen sCap : Nat) (cs : List Value) (sz : Nat)
    (hu : P.underlying dT = some (.slice elem)) (hs : (P.info? elem).map (·.size) = some sz) (hn : cs.length = Nat.min sLen dLen * sz)
    (hsrc : ∀ j v, cs[j]? = some v → w.cell? (a.add j) = some v) (hc : ∀ j, j < cs.length → (w.cell? ⟨b, o + j, none⟩).isSome = true) (hf : ∀ j, j < cs.length → w.frozen? ⟨b, o + j, none⟩ = false) (h1 : ∀ v ∈ cs, v.oneCell' = true) :
    (Builtin.copy_ #[dT, sT] ty #[.slice (some ⟨b, o, none⟩) dLen dCap, .slice (some a) sLen sCap]).run P w = .ok (goInt (Nat.min sLen dLen)) (w.setCells b o cs) := by
  have hl := run_loadCells_list (P := P) w a cs hsrc
  have hst := run_storeCells_cells (P := P) b o cs 0 w (by simpa using hc) (by simpa using hf) h1
  cases hq : P.info? elem with
  | none => simp [hq] at hs
  | some i =>
    have hi : i.size = sz := by simpa [hq] using hs
    simp [Builtin.copy_, run_underlying hu, Builtin.lenOf, Builtin.firstCells, sizeOf, typeInfo, hq, hi, ← hn, hl, hst]

/-- The operation 'copy', where its run is known. -/
theorem wpList_copy_run5 {P : Program} (w : World) {ops : Array Oper} {rest : List Oper} {o : Oper} {a : Act} {Q : Exit → Act → World → Prop} (hgd : o.guard = none) (d s : Operand) (t t' : TypeId)
    (ho : o.op = .call { callee := .builtin .copy, args := #[d, s], argTypes := #[t, t'] }) (v u : Value) (hd : a.eval d = v) (hs : a.eval s = u) {v' : Value} {w' : World}
    (hr : (Builtin.copy_ #[t, t'] o.type #[v, u]).run P w = .ok v' w') (h : wpList P ops Q rest (a.put o.dst v') w') : wpList P ops Q (o :: rest) a w :=
  wpList_plain hgd fun _ hK => by
    unfold Oper.wp execOp
    simp only [ho, resolve, invoke, builtin, Sem.run_bind, Sem.run_pure, Result.andThen_ok, List.map_toArray, List.map_cons, List.map_nil, hd, hs, hr]
    exact hK _ _ h

theorem step_copy_run5 {P : Program} {ops : Array Oper} {o : Oper} {a : Act} {w : World} {K : Act → World → Prop} {Q : Exit → Act → World → Prop} {E : Prop}
    (hg : o.guard = none) (d x : Operand) (dT sT : TypeId) (hop : o.op = Op.call { callee := Callee.builtin Builtin.copy, args := #[d, x], argTypes := #[dT, sT] })
    (v u : Value) (hd : a.eval d = v) (hx : a.eval x = u) {v' : Value} {w' : World} (hr : (Builtin.copy_ #[dT, sT] o.type #[v, u]).run P w = .ok v' w') (hK : K (a.put o.dst v') w') :
    if Region.wanted o (yielded ops a.tmps) = true then Oper.wp P o a w K Q else E := by
  have hw : Region.wanted o (yielded ops a.tmps) = true := by simp [Region.wanted, hg]
  rw [if_pos hw]
  unfold Oper.wp execOp
  simp only [hop, resolve, invoke, builtin, Sem.run_bind, Sem.run_pure, Result.andThen_ok, List.map_toArray, List.map_cons, List.map_nil, hd, hx, hr]
  exact hK

theorem setCells_drew (b : Nat) : ∀ (vs : List Value) (o : Nat) (w : World), (w.setCells b o vs).drew = w.drew.setCells b o vs
  | [], _, _ => rfl
  | v :: r, o, w => by rw [World.setCells, World.setCells, setCells_drew b r]; rfl

theorem infoE : (Try.prog.info? 25).map (fun i => (i.zero, i.size, i.bytes)) = some (some (.agg #[.int .i64 0, .int .i64 0, .int .i64 0, .string .empty, .slice none 0 0]), 5, 64) := by kernel_rfl

end Go.Proofs.Ytfmlgckfcclojaa
namespace Go.Proofs.Ytfmlgckfcclojaa
open Go.RowKit Go.Lib Go.Op

def InsPost (B : Nat) (v : Value) (n : Nat) (ys : List Value) (w : World) (e : Ending) (w' : World) : Prop :=
  ∃ v', e = .returned v' ∧ w'.ownsRow B 25 5 v' (n + 1) ys ∧ OFr (fun k => v.ownBlock = some k) w w' ∧ (v'.ownBlock = v.ownBlock ∨ v'.ownBlock = some w.heap.size)

theorem one_src {w : World} {vb : Nat} {cs : Array Value} (hvb : w.heap[vb]? = some (.cells cs 25 (0, 0))) : ∀ j u, cs.toList[j]? = some u → w.cell? ((⟨vb, 0, none⟩ : Addr).add j) = some u := fun j u hj => by
  have h : (⟨vb, 0, none⟩ : Addr).add j = ⟨vb, j, none⟩ := by unfold Addr.add; split <;> simp_all
  rw [h, cell_of_row w vb j cs 25 (0, 0) hvb]
  simpa using hj

set_option maxHeartbeats 4000000 in
set_option maxRecDepth 100000 in
theorem insert_end (B : Nat) (v : Value) (n : Nat) (xs : List Value) (vb : Nat) (cs : Array Value) (w : World) (hown : w.ownsRow B 25 5 v n xs) (hn : n ≤ 1000)
    (hvb : w.heap[vb]? = some (.cells cs 25 (0, 0))) (hcs : cs.size = 5) (h1c : ∀ u ∈ cs.toList, u.oneCell' = true) (hB : B ≤ w.heap.size) :
    Calls Try.prog 73 #[v, .int .i64 n, .slice (some ⟨vb, 0, none⟩) 1 1] w (InsPost B v n (xs ++ cs.toList) w) := by
  obtain ⟨i0, hi, hz0, hz1, hz2⟩ := info_parts infoE
  have hrun : ∀ ty, ∃ v' w', (Builtin.append_ #[66, 66] ty #[v, .slice (some ⟨vb, 0, none⟩) 1 1]).run Try.prog w = .ok v' w' ∧ w'.ownsRow B 25 5 v' (n + 1) (xs ++ cs.toList) ∧ w.grownBy w' v.ownBlock ∧ (v' = .slice none 0 0 ↔ v = .slice none 0 0 ∧ 1 = 0) ∧ (v'.ownBlock = v.ownBlock ∨ v'.ownBlock = some w.heap.size) := fun ty =>
    run_append_own_at (P := Try.prog) w B 66 ty 25 i0 _ 5 64 Try.underlying66 hi hz0 hz1 hz2 rfl (by decide) v n xs hown ⟨vb, 0, none⟩ 1 1 cs.toList (by simp [hcs]) (one_src hvb) h1c (by unfold maxLen; omega) (by omega) hB
  obtain ⟨v', w', hr, h2, h3, _, h5⟩ := hrun 66
  have fin : Hid (InsPost B v n (xs ++ cs.toList) w (.returned v') w') := ⟨v', rfl, h2, OFr.of_grown h3 (fun k hk => hk), h5⟩
  rcases hown.2 with ⟨rfl, rfl⟩ | ⟨g, cap, cur, rfl, hbg, hg, hnc, hcm, hcu, htake⟩
  · clear hown hi hz0 hz1 hz2 h2 h3 h5 hvb
    go_enter Try.func73, Try.ntmps73
    go_wp2_with (at_builtin; refine Lib.wpList_append_run _ rfl _ _ _ _ rfl _ _ rfl rfl _ _ hr ?_)
    go_ret
    exact fin.out
  · clear hown hi hz0 hz1 hz2 h2 h3 h5 hvb hg hcu htake
    unfold maxLen at hcm
    have hb3 : (0 : Int) ≤ (n : Int) := by omega
    have hb4 : (n : Int).toNat = n := by omega
    go_enter Try.func73, Try.ntmps73
    by_cases hcn : cap = n
    · go_wp2_with (at_builtin; refine Lib.wpList_append_run _ rfl _ _ _ _ rfl _ _ rfl rfl _ _ hr ?_)
      all_goals (go_ret; exact fin.out)
    · go_wp2_with (at_builtin; refine Lib.wpList_append_run _ rfl _ _ _ _ rfl _ _ rfl rfl _ _ hr ?_)
      all_goals (go_ret; exact fin.out)

end Go.Proofs.Ytfmlgckfcclojaa
namespace Go.Proofs.Ytfmlgckfcclojaa
open Go.RowKit Go.Lib Go.Op

theorem cell_some {w : World} {b : Nat} {cur : Array Value} {e : TypeId} (h : w.heap[b]? = some (.cells cur e (0, 0))) {j : Nat} (hj : j < cur.size) : (w.cell? ⟨b, j, none⟩).isSome = true := by
  rw [cell_of_row w b j cur e (0, 0) h, Array.getElem?_eq_getElem hj]; rfl

theorem addr_lit (b o j : Nat) : (⟨b, o, none⟩ : Addr).add j = ⟨b, o + j, none⟩ := by unfold Addr.add; split <;> simp_all

/-- Cells from a place on, where they lie. -/
theorem drop_src {w : World} {b : Nat} {cur : Array Value} {e : TypeId} (h : w.heap[b]? = some (.cells cur e (0, 0))) {m i : Nat} {xs : List Value} (ht : cur.toList.take m = xs) : ∀ j u, (xs.drop i)[j]? = some u → w.cell? ((⟨b, i, none⟩ : Addr).add j) = some u := fun j u hj => by
  rw [addr_lit, cell_of_row w b (i + j) cur e (0, 0) h]
  rw [List.getElem?_drop, ← ht, List.getElem?_take] at hj
  split at hj
  · simpa using hj
  · cases hj

/-- The list behind both copies. -/
theorem putL_insert (cur xs cs : List Value) (i n s : Nat) (hx : cur.take (n * s) = xs) (hxl : xs.length = n * s) (hcs : cs.length = s) (hi : i ≤ n) (hc : (n + 1) * s ≤ cur.length) :
    (putL (putL cur ((i + 1) * s) (xs.drop (i * s))) (i * s) cs).take ((n + 1) * s) = xs.take (i * s) ++ (cs ++ xs.drop (i * s)) := by
  have e1 : (i + 1) * s = i * s + s := by rw [Nat.add_mul]; omega
  have e2 : (n + 1) * s = n * s + s := by rw [Nat.add_mul]; omega
  have e3 : i * s ≤ n * s := Nat.mul_le_mul_right _ hi
  have hdl : (xs.drop (i * s)).length = n * s - i * s := by rw [List.length_drop, hxl]
  rw [e2] at hc ⊢
  unfold putL
  rw [hdl, e1, hcs]
  have hA : (cur.take (i * s + s) ++ xs.drop (i * s) ++ cur.drop (i * s + s + (n * s - i * s))).take (i * s) = xs.take (i * s) := by
    rw [List.append_assoc, List.take_append_of_le_length (by rw [List.length_take]; omega), List.take_take, ← hx, List.take_take]
    congr 1
    omega
  have hB : (cur.take (i * s + s) ++ xs.drop (i * s) ++ cur.drop (i * s + s + (n * s - i * s))).drop (i * s + s) = xs.drop (i * s) ++ cur.drop (i * s + s + (n * s - i * s)) := by
    rw [List.append_assoc]
    have h : (cur.take (i * s + s)).length = i * s + s := by rw [List.length_take]; omega
    exact List.drop_left' h
  rw [hA, hB, ← List.append_assoc (xs.take (i * s))]
  rw [← List.append_assoc, List.take_append_of_le_length (by simp only [List.length_append, List.length_take, hxl, hcs, hdl]; omega)]
  refine List.take_of_length_le ?_
  simp only [List.length_append, List.length_take, hxl, hcs, hdl]
  omega

set_option maxHeartbeats 4000000 in
set_option maxRecDepth 100000 in
theorem insert_shift (B g cap n i : Nat) (cur : Array Value) (xs : List Value) (vb : Nat) (cs : Array Value) (w : World) (hg : w.heap[g]? = some (.cells cur 25 (0, 0))) (hxl : xs.length = n * 5) (hcu : cur.size = cap * 5) (hcm : cap ≤ maxLen) (htake : cur.toList.take (n * 5) = xs)
    (hi : i < n) (hn : n ≤ 1000) (hroom : n + 1 ≤ cap) (h1x : ∀ u ∈ xs, u.oneCell' = true) (hne : vb ≠ g) (hbg : B ≤ g)
    (hvb : w.heap[vb]? = some (.cells cs 25 (0, 0))) (hcs : cs.size = 5) (h1c : ∀ u ∈ cs.toList, u.oneCell' = true) :
    Calls Try.prog 73 #[.slice (some ⟨g, 0, none⟩) n cap, .int .i64 i, .slice (some ⟨vb, 0, none⟩) 1 1] w (InsPost B (.slice (some ⟨g, 0, none⟩) n cap) n (xs.take (i * 5) ++ (cs.toList ++ xs.drop (i * 5))) w) := by
  obtain ⟨i0, hinf, hz0, hz1, hz2⟩ := info_parts infoE
  have hsz : (Try.prog.info? 25).map (·.size) = some 5 := by rw [hinf]; simp [hz1]
  have hov : ∀ lb cb, (callFunc 92 #[.slice (some ⟨vb, 0, none⟩) 1 1, .slice (some ⟨g, (i + 1) * 5, none⟩) lb cb]).run Try.prog w = .ok (.value (.bool false)) w := fun lb cb => by
    rw [run_callFunc_extern Try.func92 (by kernel_rfl) (by kernel_rfl) (by kernel_rfl) (e := Extern.SlicesOverlaps.overlaps #[66, 66] #[4]) (by kernel_rfl),
      Lib.run_overlaps_apart w 66 4 25 Try.underlying66 5 (fun W => by kernel_rfl) ⟨vb, 0, none⟩ ⟨g, (i + 1) * 5, none⟩ 1 1 lb cb hne 25 25 cs.size cur.size (by unfold World.shape?; rw [hvb]) (by unfold World.shape?; rw [hg]) (by omega) (frozen_of_row w vb 0 cs 25 hvb) (frozen_of_row w vb cs.size cs 25 hvb)]
    rfl
  have hdl : (xs.drop (i * 5)).length = n * 5 - i * 5 := by rw [List.length_drop, hxl]
  have hcp1 : ∀ ty dc sc, (Builtin.copy_ #[66, 66] ty #[.slice (some ⟨g, (i + 1) * 5, none⟩) (n - i) dc, .slice (some ⟨g, i * 5, none⟩) (n + 1 - i) sc]).run Try.prog w.drew = .ok (goInt (Nat.min (n + 1 - i) (n - i))) (w.drew.setCells g ((i + 1) * 5) (xs.drop (i * 5))) := fun ty dc sc =>
    run_copy_many w.drew _ _ ty 25 g ((i + 1) * 5) (n - i) dc ⟨g, i * 5, none⟩ (n + 1 - i) sc (xs.drop (i * 5)) 5 Try.underlying66 hsz (by rw [hdl]; simp only [Nat.min_def]; split <;> omega)
      (drop_src (w := w.drew) hg htake) (fun j hj => cell_some (w := w.drew) hg (by omega)) (fun j hj => frozen_of_row w.drew g _ cur 25 hg) (fun u hu => h1x u (List.mem_of_mem_drop hu))
  obtain ⟨cur1, hg1, ht1, hs1⟩ := heap_setCells g 25 (xs.drop (i * 5)) ((i + 1) * 5) w.drew cur hg (by omega)
  obtain ⟨W1, hW1⟩ : ∃ W1, W1 = w.drew.setCells g ((i + 1) * 5) (xs.drop (i * 5)) := ⟨_, rfl⟩
  have hF1 : OFr (fun k => (Value.slice (some ⟨g, 0, none⟩) n cap).ownBlock = some k) w W1 := by rw [hW1]; exact OFr.setCells (K := fun k => (Value.slice (some ⟨g, 0, none⟩) n cap).ownBlock = some k) (OFr.refl _ w).drew (fun _ => rfl) _ _
  have hv1 : W1.heap[vb]? = some (.cells cs 25 (0, 0)) := by rw [hW1, setCells_other g _ _ _ _ hne]; exact hvb
  rw [← hW1] at hcp1 hg1
  have hcp2 : ∀ ty dc, (Builtin.copy_ #[66, 66] ty #[.slice (some ⟨g, i * 5, none⟩) (n + 1 - i) dc, .slice (some ⟨vb, 0, none⟩) 1 1]).run Try.prog W1 = .ok (goInt (Nat.min 1 (n + 1 - i))) (W1.setCells g (i * 5) cs.toList) := fun ty dc =>
    run_copy_many W1 _ _ ty 25 g (i * 5) (n + 1 - i) dc ⟨vb, 0, none⟩ 1 1 cs.toList 5 Try.underlying66 hsz (by rw [Array.length_toList, hcs]; simp only [Nat.min_def]; split <;> omega)
      (one_src hv1) (fun j hj => cell_some hg1 (by rw [Array.length_toList] at hj; omega)) (fun j hj => frozen_of_row W1 g _ cur1 25 hg1) h1c
  obtain ⟨cur2, hg2, ht2, hs2⟩ := heap_setCells g 25 cs.toList (i * 5) W1 cur1 hg1 (by rw [Array.length_toList]; omega)
  have fin : Hid (InsPost B (.slice (some ⟨g, 0, none⟩) n cap) n (xs.take (i * 5) ++ (cs.toList ++ xs.drop (i * 5))) w (.returned (.slice (some ⟨g, 0, none⟩) (n + 1) cap)) (W1.setCells g (i * 5) cs.toList)) := by
    refine ⟨_, rfl, ⟨?_, .inr ⟨g, cap, cur2, rfl, hbg, hg2, hroom, hcm, by omega, ?_⟩⟩, hF1.setCells (fun _ => rfl) _ _, .inl rfl⟩
    · simp only [List.length_append, List.length_take, List.length_drop, hxl, Array.length_toList, hcs]; omega
    · rw [ht2, ht1]
      exact putL_insert cur.toList xs cs.toList i n 5 htake hxl (by rw [Array.length_toList, hcs]) (by omega) (by rw [Array.length_toList]; omega)
  have hcpB : ∀ (W : World), W = W1 → ∀ ty dc, (Builtin.copy_ #[66, 66] ty #[.slice (some ⟨g, i * 5, none⟩) (n + 1 - i) dc, .slice (some ⟨vb, 0, none⟩) 1 1]).run Try.prog W = .ok (goInt (Nat.min 1 (n + 1 - i))) (W1.setCells g (i * 5) cs.toList) := fun W h => by rw [h]; exact hcp2
  unfold maxLen at hcm
  have hz2' : ¬ ((i : Int) = (n : Int)) := by omega
  have hw1 : IntKind.i64.wrap ((i : Int) + 1) = (i : Int) + 1 := by rw [IntKind.wrap_i64]; omega
  have hb1 : (0 : Int) ≤ (i : Int) + 1 := by omega
  have htn : ((i : Int) + 1).toNat = i + 1 := by omega
  have hb2 : ¬ (cap = i + 1) := by omega
  have hb3 : (i : Int) ≤ (n : Int) + 1 := by omega
  have hb4 : ¬ (cap = i) := by omega
  have hin : i ≤ n := by omega
  clear hcp2 hdl hinf hz0 hz1 hz2 hsz hg hg1 hg2 ht1 ht2 hs1 hs2 hvb hv1 hF1 htake hcu hxl h1x h1c hcs
  have HW1 := Lib.hid hW1
  clear hW1
  go_enter Try.func73, Try.ntmps73
  go_wp2_with (simp only [hov])
  go_region_law (refine step_copy_run5 rfl _ _ 66 66 rfl _ _ (by simp [Act.eval, Act.put]) (by simp [Act.eval, Act.put]) (hcp1 _ _ _) ?_)
  go_wp2_with (at_builtin; refine wpList_copy_run5 _ rfl _ _ 66 66 rfl _ _ rfl rfl (hcpB _ rfl _ _) ?_)
  go_ret
  exact fin.out

end Go.Proofs.Ytfmlgckfcclojaa
namespace Go.Proofs.Ytfmlgckfcclojaa
open Go.RowKit Go.Lib Go.Op

theorem putL_grow (xs zs cs : List Value) (i n s : Nat) (hxl : xs.length = n * s) (hcs : cs.length = s) (hi : i ≤ n) (_hz : (n + 1 - i) * s ≤ zs.length) :
    (putL (putL (xs.take (i * s) ++ zs) (i * s) cs) ((i + 1) * s) (xs.drop (i * s))).take ((n + 1) * s) = xs.take (i * s) ++ (cs ++ xs.drop (i * s)) := by
  have e1 : (i + 1) * s = i * s + s := by rw [Nat.add_mul]; omega
  have e2 : (n + 1) * s = n * s + s := by rw [Nat.add_mul]; omega
  have e3 : i * s ≤ n * s := Nat.mul_le_mul_right _ hi
  have hdl : (xs.drop (i * s)).length = n * s - i * s := by rw [List.length_drop, hxl]
  have htl : (xs.take (i * s)).length = i * s := by rw [List.length_take, hxl]; omega
  rw [Nat.sub_mul, e2] at _hz
  unfold putL
  rw [hdl, e1, e2, hcs, List.take_left' htl]
  have hA : (xs.take (i * s) ++ cs ++ (xs.take (i * s) ++ zs).drop (i * s + s)).take (i * s + s) = xs.take (i * s) ++ cs := List.take_left' (by rw [List.length_append, htl, hcs])
  rw [hA, ← List.append_assoc (xs.take (i * s))]
  rw [List.take_append_of_le_length (by simp only [List.length_append, htl, hcs, hdl]; omega)]
  refine List.take_of_length_le ?_
  simp only [List.length_append, htl, hcs, hdl]
  omega

set_option maxHeartbeats 4000000 in
set_option maxRecDepth 100000 in
theorem insert_grow (B g cap n i : Nat) (cur : Array Value) (xs : List Value) (vb : Nat) (cs : Array Value) (w : World) (hg : w.heap[g]? = some (.cells cur 25 (0, 0))) (hxl : xs.length = n * 5) (hcu : cur.size = cap * 5) (hcm : cap ≤ maxLen) (htake : cur.toList.take (n * 5) = xs)
    (hi : i < n) (hn : n ≤ 1000) (hnc : n ≤ cap) (hroom : ¬ n + 1 ≤ cap) (h1x : ∀ u ∈ xs, u.oneCell' = true) (_hne : vb ≠ g) (hB : B ≤ w.heap.size)
    (hvb : w.heap[vb]? = some (.cells cs 25 (0, 0))) (hcs : cs.size = 5) (h1c : ∀ u ∈ cs.toList, u.oneCell' = true) :
    Calls Try.prog 73 #[.slice (some ⟨g, 0, none⟩) n cap, .int .i64 i, .slice (some ⟨vb, 0, none⟩) 1 1] w (InsPost B (.slice (some ⟨g, 0, none⟩) n cap) n (xs.take (i * 5) ++ (cs.toList ++ xs.drop (i * 5))) w) := by
  obtain ⟨i0, hinf, hz0, hz1, hz2⟩ := info_parts infoE
  have hsz : (Try.prog.info? 25).map (·.size) = some 5 := by rw [hinf]; simp [hz1]
  obtain rfl : n = cap := by omega
  have hgl : g < w.heap.size := (Array.getElem?_eq_some_iff.1 hg).1
  have hvl : vb < w.heap.size := (Array.getElem?_eq_some_iff.1 hvb).1
  have hdl : (xs.drop (i * 5)).length = n * 5 - i * 5 := by rw [List.length_drop, hxl]
  have htl : (xs.take (i * 5)).length = i * 5 := by rw [List.length_take, hxl]; omega
  have hold : (Builtin.firstCells i0.size i (.slice (some ⟨g, 0, none⟩) i n)).run Try.prog w.drew = .ok (xs.take (i * 5)).toArray w.drew := by
    rw [hz1]
    exact run_firstCells_some w.drew 5 i ⟨g, 0, none⟩ i n (xs.take (i * 5)) htl (fun j u hj => by
      rw [addr_lit, Nat.zero_add, cell_of_row w.drew g j cur 25 (0, 0) hg]
      rw [← htake, List.take_take, List.getElem?_take] at hj
      split at hj
      · simpa using hj
      · cases hj)
  obtain ⟨G, hG⟩ : ∃ G, G = grownCap w (n + 1) n 25 := ⟨_, rfl⟩
  have hGn : n + 1 ≤ G := by rw [hG]; exact grownCap_ge w _ _ _
  have hGm : G ≤ maxLen := by rw [hG]; exact grownCap_le_maxLen w (n + 1) n 25 (by unfold maxLen; omega)
  obtain ⟨ROW, hROW⟩ : ∃ ROW : Array Value, ROW = (xs.take (i * 5)).toArray ++ Builtin.zeroCells (Value.agg #[.int .i64 0, .int .i64 0, .int .i64 0, .string .empty, .slice none 0 0]).cells (n + 1 - i) ++ Builtin.zeroCells (Value.agg #[.int .i64 0, .int .i64 0, .int .i64 0, .string .empty, .slice none 0 0]).cells (G - (n + 1)) := ⟨_, rfl⟩
  have hc5 : (Value.agg #[.int .i64 0, .int .i64 0, .int .i64 0, .string .empty, .slice none 0 0]).cells.size = 5 := by kernel_rfl
  have hRs : ROW.size = G * 5 := by
    rw [hROW]
    simp only [Array.size_append, List.size_toArray, htl, size_zeroCells, hc5]
    omega
  have hRl : ∃ zs, ROW.toList = xs.take (i * 5) ++ zs ∧ (n + 1 - i) * 5 ≤ zs.length := by
    refine ⟨(Builtin.zeroCells (Value.agg #[.int .i64 0, .int .i64 0, .int .i64 0, .string .empty, .slice none 0 0]).cells (n + 1 - i) ++ Builtin.zeroCells (Value.agg #[.int .i64 0, .int .i64 0, .int .i64 0, .string .empty, .slice none 0 0]).cells (G - (n + 1))).toList, ?_, ?_⟩
    · rw [hROW]; simp
    · rw [Array.length_toList]
      simp only [Array.size_append, size_zeroCells, hc5]
      omega
  have hrz : ∀ ty, (Builtin.append_ #[66, 3] ty #[.slice (some ⟨g, 0, none⟩) i n, .int .i64 ((n : Int) + 1 - (i : Int))]).run Try.prog w = .ok (.slice (some ⟨w.heap.size, 0, none⟩) (n + 1) G) (w.drew.alloc (.cells ROW 25)) := fun ty => by
    have hik : i + (n + 1 - i) = n + 1 := by omega
    have hkk : (n : Int) + 1 - (i : Int) = ((n + 1 - i : Nat) : Int) := by omega
    have h := Lib.run_append_grow_zeros w 66 3 ty 25 i0 _ .i64 .i64 Try.underlying66 Try.underlying3 hinf hz0 (some ⟨g, 0, none⟩) i n (xs.take (i * 5)) hold (n + 1 - i) (by omega) (by omega) (by omega) (by omega) (by rw [hz2]; omega) (by rw [hz2, hik]; exact growslice_fits (by omega) (by omega))
    rw [hik, ← hG] at h
    rw [hkk, hROW]
    exact h
  clear hold
  have hgN : (w.drew.alloc (.cells ROW 25)).heap[w.heap.size]? = some (.cells ROW 25 (0, 0)) := heap_alloc_new w.drew _
  obtain ⟨W1, hW1⟩ : ∃ W1, W1 = w.drew.alloc (.cells ROW 25) := ⟨_, rfl⟩
  have hF1 : OFr (fun k => (Value.slice (some ⟨g, 0, none⟩) n n).ownBlock = some k) w W1 := by rw [hW1]; exact (OFr.refl _ w).drew.alloc _
  have hv1 : W1.heap[vb]? = some (.cells cs 25 (0, 0)) := by rw [hW1, heap_alloc_old w.drew _ hvl]; exact hvb
  have hg1 : W1.heap[g]? = some (.cells cur 25 (0, 0)) := by rw [hW1, heap_alloc_old w.drew _ hgl]; exact hg
  rw [← hW1] at hgN
  have hcpA : ∀ ty dc, (Builtin.copy_ #[66, 66] ty #[.slice (some ⟨w.heap.size, i * 5, none⟩) (n + 1 - i) dc, .slice (some ⟨vb, 0, none⟩) 1 1]).run Try.prog W1 = .ok (goInt (Nat.min 1 (n + 1 - i))) (W1.setCells w.heap.size (i * 5) cs.toList) := fun ty dc =>
    run_copy_many W1 _ _ ty 25 w.heap.size (i * 5) (n + 1 - i) dc ⟨vb, 0, none⟩ 1 1 cs.toList 5 Try.underlying66 hsz (by rw [Array.length_toList, hcs]; simp only [Nat.min_def]; split <;> omega)
      (one_src hv1) (fun j hj => cell_some hgN (by rw [Array.length_toList] at hj; omega)) (fun j hj => frozen_of_row W1 w.heap.size _ ROW 25 hgN) h1c
  obtain ⟨cur2, hg2, ht2, hs2⟩ := heap_setCells w.heap.size 25 cs.toList (i * 5) W1 ROW hgN (by rw [Array.length_toList]; omega)
  obtain ⟨W2, hW2⟩ : ∃ W2, W2 = W1.setCells w.heap.size (i * 5) cs.toList := ⟨_, rfl⟩
  have hF2 : OFr (fun k => (Value.slice (some ⟨g, 0, none⟩) n n).ownBlock = some k) w W2 := by rw [hW2]; exact hF1.setCells (fun h => absurd h (Nat.lt_irrefl _)) _ _
  have hgo : W2.heap[g]? = some (.cells cur 25 (0, 0)) := by rw [hW2, setCells_other _ _ _ _ _ (by omega)]; exact hg1
  rw [← hW2] at hcpA hg2
  have hcpB : ∀ ty dc sc, (Builtin.copy_ #[66, 66] ty #[.slice (some ⟨w.heap.size, (i + 1) * 5, none⟩) (n - i) dc, .slice (some ⟨g, i * 5, none⟩) (n - i) sc]).run Try.prog W2.drew = .ok (goInt (Nat.min (n - i) (n - i))) (W2.drew.setCells w.heap.size ((i + 1) * 5) (xs.drop (i * 5))) := fun ty dc sc =>
    run_copy_many W2.drew _ _ ty 25 w.heap.size ((i + 1) * 5) (n - i) dc ⟨g, i * 5, none⟩ (n - i) sc (xs.drop (i * 5)) 5 Try.underlying66 hsz (by rw [hdl]; simp only [Nat.min_self]; omega)
      (drop_src (w := W2.drew) hgo htake) (fun j hj => cell_some (w := W2.drew) hg2 (by omega)) (fun j hj => frozen_of_row W2.drew _ _ cur2 25 hg2) (fun u hu => h1x u (List.mem_of_mem_drop hu))
  obtain ⟨cur3, hg3, ht3, hs3⟩ := heap_setCells w.heap.size 25 (xs.drop (i * 5)) ((i + 1) * 5) W2.drew cur2 hg2 (by omega)
  have fin : Hid (InsPost B (.slice (some ⟨g, 0, none⟩) n n) n (xs.take (i * 5) ++ (cs.toList ++ xs.drop (i * 5))) w (.returned (.slice (some ⟨w.heap.size, 0, none⟩) (n + 1) G)) (W2.drew.setCells w.heap.size ((i + 1) * 5) (xs.drop (i * 5)))) := by
    refine ⟨_, rfl, ⟨?_, .inr ⟨w.heap.size, G, cur3, rfl, hB, hg3, hGn, hGm, by omega, ?_⟩⟩, hF2.drew.setCells (fun h => absurd h (Nat.lt_irrefl _)) _ _, .inr rfl⟩
    · simp only [List.length_append, List.length_take, List.length_drop, hxl, Array.length_toList, hcs]; omega
    · obtain ⟨zs, hz, hzl⟩ := hRl
      rw [ht3, ht2, hz]
      exact putL_grow xs zs cs.toList i n 5 hxl (by rw [Array.length_toList, hcs]) (by omega) hzl
  unfold maxLen at hGm
  have hz2' : ¬ ((i : Int) = (n : Int)) := by omega
  have hw1 : IntKind.i64.wrap ((i : Int) + 1) = (i : Int) + 1 := by rw [IntKind.wrap_i64]; omega
  have hb1 : (0 : Int) ≤ (i : Int) + 1 := by omega
  have htn : ((i : Int) + 1).toNat = i + 1 := by omega
  have hb2 : ¬ (G = i + 1) := by omega
  have hb3 : (i : Int) ≤ (n : Int) := by omega
  have hb4 : ¬ (G = i) := by omega
  have hb5 : ¬ (n = i) := by omega
  have hin : i ≤ n := by omega
  have hrz : ∀ ty, (Builtin.append_ #[66, 3] ty #[.slice (some ⟨g, 0, none⟩) i n, .int .i64 ((n : Int) + 1 - (i : Int))]).run Try.prog w = .ok (.slice (some ⟨w.heap.size, 0, none⟩) (n + 1) G) W1 := by rw [hW1]; exact hrz
  have Hg := Lib.hid hG
  have HW1 := Lib.hid hW1
  have HW2 := Lib.hid hW2
  clear hdl htl hinf hz0 hz1 hz2 hsz hg hgN hg1 hgo hg2 hg3 ht2 ht3 hs2 hs3 hvb hv1 hF1 hF2 htake hcu hxl h1x h1c hcs hRl hRs hROW hc5 hgl hvl hG hW1 hW2
  go_enter Try.func73, Try.ntmps73
  go_wp2_with (first
    | (at_builtin; refine Lib.wpList_append_run _ rfl _ _ _ _ rfl _ _ rfl rfl _ _ (hrz _) ?_)
    | (at_builtin; refine wpList_copy_run5 _ rfl _ _ 66 66 rfl _ _ rfl rfl (hcpA _ _) ?_))
  go_region_law (refine step_copy_run5 rfl _ _ 66 66 rfl _ _ (by simp [Act.eval, Act.put]) (by simp [Act.eval, Act.put]) (hcpB _ _ _) ?_)
  go_wp2
  go_ret
  exact fin.out

theorem insert_calls (B : Nat) (v : Value) (n i : Nat) (xs : List Value) (vb : Nat) (cs : Array Value) (w : World) (hown : w.ownsRow B 25 5 v n xs) (hi : i ≤ n) (hn : n ≤ 1000) (h1x : ∀ u ∈ xs, u.oneCell' = true)
    (hvb : w.heap[vb]? = some (.cells cs 25 (0, 0))) (hcs : cs.size = 5) (h1c : ∀ u ∈ cs.toList, u.oneCell' = true) (hne : v.ownBlock ≠ some vb) (hB : B ≤ w.heap.size) :
    Calls Try.prog 73 #[v, .int .i64 i, .slice (some ⟨vb, 0, none⟩) 1 1] w (InsPost B v n (xs.take (i * 5) ++ (cs.toList ++ xs.drop (i * 5))) w) := by
  by_cases he : i = n
  · subst he
    have h := insert_end B v i xs vb cs w hown hn hvb hcs h1c hB
    rw [List.take_of_length_le (by rw [hown.1]; exact Nat.le_refl _), List.drop_of_length_le (by rw [hown.1]; exact Nat.le_refl _), List.append_nil]
    exact h
  · rcases hown.2 with ⟨rfl, rfl⟩ | ⟨g, cap, cur, rfl, hbg, hg, hnc, hcm, hcu, htake⟩
    · omega
    · have hne' : vb ≠ g := fun e => hne (by rw [e]; rfl)
      by_cases hroom : n + 1 ≤ cap
      · exact insert_shift B g cap n i cur xs vb cs w hg hown.1 hcu hcm htake (by omega) hn hroom h1x hne' hbg hvb hcs h1c
      · exact insert_grow B g cap n i cur xs vb cs w hg hown.1 hcu hcm htake (by omega) hn hnc hroom h1x hne' hB hvb hcs h1c

end Go.Proofs.Ytfmlgckfcclojaa
