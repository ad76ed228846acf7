/- Clone of fields; the program's and the document's Find; the document's Fits; SameSchema. -/
import Derived.Test.YtppgecbjdkfohaaEAf
import Derived.Test.YtppgecbjdkfohaaECe
import Derived.Test.YtppgecbjdkfohaaE6e
import Derived.Deep.RegionHeld3
namespace Go.Proofs.Ytppgecbjdkfohaa
open Go.RowKit Go.Lib Go.Op

theorem infoF : (Try.prog.info? 55).map (fun i => (i.zero, i.size, i.bytes)) = some (some (.agg #[.string .empty, .int .i64 0]), 2, 24) := by kernel_rfl

/-- A field's cells, and fields'. -/
def fCells (x : FIn) : List Value := [.string x.1, .int .i64 x.2]
def fldCells : List FIn → List Value
  | [] => []
  | x :: l => fCells x ++ fldCells l
theorem fldCells_len : ∀ (l : List FIn), (fldCells l).length = l.length * 2
  | [] => rfl
  | x :: l => by rw [fldCells, List.length_append, fldCells_len l, List.length_cons]; simp [fCells]; omega
theorem fldCells_one : ∀ (l : List FIn), ∀ u ∈ fldCells l, u.oneCell' = true
  | [], u, hu => by cases hu
  | x :: l, u, hu => by
    rw [fldCells, List.mem_append] at hu
    rcases hu with h | h
    · simp only [fCells, List.mem_cons, List.not_mem_nil, or_false] at h
      rcases h with rfl | rfl <;> rfl
    · exact fldCells_one l u h
theorem fldCells_at : ∀ (l : List FIn) (j : Nat) (x : FIn) (i : Nat), l[j]? = some x → i < 2 → (fldCells l)[j * 2 + i]? = (fCells x)[i]?
  | [], j, x, i, h, _ => by simp at h
  | y :: l, 0, x, i, h, hi => by
    have e : y = x := by simpa using h
    subst e
    rw [fldCells, Nat.zero_mul, Nat.zero_add, List.getElem?_append_left (by simpa [fCells] using hi)]
  | y :: l, j + 1, x, i, h, hi => by
    have h1 := fldCells_at l j x i (by simpa using h) hi
    rw [fldCells, List.getElem?_append_right (by simp [fCells]; omega)]
    rw [← h1]
    congr 1
    simp [fCells]
    omega

theorem FRow.src {w : World} {A : Addr} {vs : List FIn} (h : FRow w (some A) vs) : ∀ j u, (fldCells vs)[j]? = some u → w.cell? (A.add j) = some u := by
  intro j u hj
  have hjl := (List.getElem?_eq_some_iff.1 hj).1
  rw [fldCells_len] at hjl
  obtain ⟨q, r, hr, rfl⟩ : ∃ q r, r < 2 ∧ j = q * 2 + r := ⟨j / 2, j % 2, Nat.mod_lt _ (by omega), by omega⟩
  have hq : q < vs.length := by omega
  obtain ⟨A', e, h0, h1, _⟩ := h q _ (List.getElem?_eq_getElem hq)
  injection e with e
  subst e
  rw [fldCells_at vs q _ r (List.getElem?_eq_getElem hq) hr] at hj
  unfold efld at h1
  have ha : ∀ i, 0 < i → A.add (q * 2 + i) = ⟨(A.add (q * 2)).block, (A.add (q * 2)).off + i, none⟩ := fun i hi => by
    unfold Addr.add
    rw [if_neg (by omega)]
    split
    · rename_i h0; simp [h0]
    · simp; omega
  match r, hr with
  | 0, _ => injection hj with hj; rw [← hj, Nat.add_zero]; exact h0
  | 1, _ => injection hj with hj; rw [← hj, ha 1 (by omega)]; exact h1

theorem FRow.of_owns {w : World} {base : Nat} {v : Value} {n : Nat} {vs : List FIn} (h : w.ownsRow base 55 2 v n (fldCells vs)) (hs : ∀ x ∈ vs, x.1.size ≤ maxLen) {a : Option Addr} {c : Nat} (hv : v = .slice a vs.length c) : FRow w a vs := by
  intro j x hj
  have hc := fun g hg => h.cells (g := g) hg
  have hjl := (List.getElem?_eq_some_iff.1 hj).1
  rcases h.2 with ⟨h1, h0⟩ | ⟨g, cap, cur, h1, _⟩
  · rw [hv] at h1
    injection h1 with _ h3
    omega
  · have hg : v.ownBlock = some g := by rw [h1]; rfl
    have he := hc g hg
    rw [hv] at h1
    injection h1 with h4
    subst h4
    have hadd : ∀ q, ((⟨g, 0, none⟩ : Addr).add q) = ⟨g, q, none⟩ := fun q => by unfold Addr.add; split <;> simp_all
    have key : ∀ i u, i < 2 → (fCells x)[i]? = some u → w.cell? ⟨g, j * 2 + i, none⟩ = some u := fun i u hi hu => by
      have := he (j * 2 + i) u ((fldCells_at vs j x i hj hi).trans hu)
      rwa [hadd] at this
    refine ⟨⟨g, 0, none⟩, rfl, ?_, ?_, hs x (List.mem_of_getElem? hj)⟩
    · rw [hadd]; exact key 0 _ (by omega) rfl
    · unfold efld; rw [hadd]; exact key 1 _ (by omega) rfl

theorem FRow.sizes {w : World} {a : Option Addr} {vs : List FIn} (h : FRow w a vs) : ∀ x ∈ vs, x.1.size ≤ maxLen := by
  intro x hx
  obtain ⟨j, hj, rfl⟩ := List.mem_iff_getElem.1 hx
  obtain ⟨_, _, _, _, h5⟩ := h j _ (List.getElem?_eq_getElem hj)
  exact h5
theorem FRow.nil {w : World} {vs : List FIn} (h : FRow w none vs) : vs = [] := by
  cases vs with
  | nil => rfl
  | cons x l => obtain ⟨_, e, _⟩ := h 0 x rfl; cases e

/-- What a row of fields in an answer is. -/
def FieldsQ (w : World) (fs : List FIn) (e : Ending) (w' : World) : Prop := ∃ a c, e = .returned (.slice a fs.length c) ∧ FRow w' a fs ∧ (∀ A, a = some A → w.heap.size ≤ A.block) ∧ Below w.heap.size w w'

set_option maxHeartbeats 1000000 in
set_option maxRecDepth 100000 in
theorem clone_calls (a : Option Addr) (c : Nat) (fs : List FIn) (w : World) (hv : FRow w a fs) (hl : fs.length * 24 ≤ 140737488355328) :
    Calls Try.prog 49 #[.slice a fs.length c] w (FieldsQ w fs) := by
  cases a with
  | none =>
    obtain rfl := hv.nil
    have heq := fun W => Lib.run_eql_slice_nil (P := Try.prog) W 29 55 none 0 c 0 0 Try.underlying29
    go_enter Try.func49, Try.ntmps49
    go_wp2
    all_goals
      go_ret
      exact ⟨none, 0, rfl, fun j x hj => by simp at hj, (fun A hA => by cases hA), by first | exact Below.refl _ _ | exact (Below.refl _ _).alloc (Nat.le_refl _) _⟩
  | some A =>
    obtain ⟨i0, hi, hz⟩ := Option.map_eq_some_iff.1 infoF
    injection hz with hz0 hz
    injection hz with hz1 hz2
    have hbe : Below w.heap.size w (w.alloc (.cells #[] 55)) := (Below.refl _ _).alloc (Nat.le_refl _) _
    have HO : Hid ((w.alloc (.cells #[] 55)).ownsRow w.heap.size 55 2 (.slice (some ⟨w.heap.size, 0, none⟩) 0 0) 0 []) := ⟨rfl, .inr ⟨w.heap.size, 0, #[], rfl, Nat.le_refl _, heap_alloc_new w _, Nat.le_refl _, Nat.zero_le _, rfl, rfl⟩⟩
    have HS := Lib.hid (hv.below hbe).src
    have Hsz := Lib.hid hv.sizes
    have Hlen := Lib.hid (fldCells_len fs)
    have Hone := Lib.hid (fldCells_one fs)
    have HB := Lib.hid hbe
    have heq := fun W => Lib.run_eql_slice_nil (P := Try.prog) W 29 55 (some A) fs.length c 0 0 Try.underlying29
    clear hv hbe
    go_enter Try.func49, Try.ntmps49
    go_wp2_with (at_builtin; refine wpList_append_own _ rfl (.tmp 5) (.tmp 6) 29 rfl w.heap.size 55 i0 (.agg #[.string .empty, .int .i64 0]) 2 24 Try.underlying29 hi hz0 hz1 hz2 rfl (by decide) _ _ _ rfl HO.out A fs.length c (fldCells fs) rfl Hlen.out HS.out Hone.out (by unfold maxLen; omega) (by omega) HB.out.size ?_; intro v8 w8 hown8 hgrow8 hnil8; have HB8 := Lib.hid (HB.out.grown hgrow8 HB.out.size (fun g hg => (HO.out.lt g hg).1)); have HO8 := Lib.hid hown8; clear hown8 hgrow8 hnil8)
    go_wp2
    go_ret
    have h8 := HO8.out
    rw [Nat.zero_add, List.nil_append] at h8
    obtain ⟨a8, c8, rfl⟩ := vowns_slice h8
    exact ⟨a8, c8, rfl, FRow.of_owns h8 Hsz.out rfl, (fun A hA => by subst hA; exact (h8.lt A.block rfl).1), HB8.out⟩

/-- A schema in an answer. -/
def SchemaQ (w : World) (o : Option SIn) (e : Ending) (w' : World) : Prop := ∃ (n : ByteArray) (a : Option Addr) (c : Nat) (fs : List FIn), e = .returned (.tuple #[.agg #[.string n, .slice a fs.length c], .bool o.isSome]) ∧ n = (o.map (·.name)).getD ⟨#[]⟩ ∧ fs = (o.map (·.fs)).getD [] ∧ FRow w' a fs ∧ Below w.heap.size w w'

/-- The first schema of a name. -/
def findS (xs : List SIn) (name : ByteArray) : Option SIn := (xs.findIdx? fun x => nameIs name x.name).bind (xs[·]?)
theorem findS_none {xs : List SIn} {name : ByteArray} (h : xs.findIdx? (fun x => nameIs name x.name) = none) : findS xs name = none := by unfold findS; rw [h]; rfl
theorem findS_some {xs : List SIn} {name : ByteArray} {k : Nat} {x : SIn} (h : xs.findIdx? (fun x => nameIs name x.name) = some k) (hx : xs[k]? = some x) : findS xs name = some x := by unfold findS; rw [h]; exact hx

theorem below2 {w W : World} {b : Nat} (h : Below w.heap.size w W) (hb : w.heap.size ≤ b) (x0 x1 : Value) : Below w.heap.size w ((W.setCell ⟨b, 0, none⟩ x0).setCell ⟨b, 1, none⟩ x1) :=
  (h.setCell (p := ⟨b, 0, none⟩) hb x0).setCell (p := ⟨b, 1, none⟩) hb x1

theorem FRow.set {w : World} {a : Option Addr} {vs : List FIn} (h : FRow w a vs) {b i : Nat} (x : Value) (hs : ∀ A, a = some A → A.block ≠ b) : FRow (w.setCell ⟨b, i, none⟩ x) a vs := fun j y hj => by
  obtain ⟨A, h1, h2, h3, h4⟩ := h j y hj
  have hne := hs A h1
  have key : ∀ q : Addr, q.block = A.block → (w.setCell ⟨b, i, none⟩ x).cell? q = w.cell? q := fun q hq => World.cell?_setCell_other _ _ _ _ (fun e => hne (by rw [← hq, ← e]))
  exact ⟨A, h1, (key _ (fadd_block _ _)).trans h2, (key (efld A 2 j 1) (fadd_block _ _)).trans h3, h4⟩

set_option maxHeartbeats 2000000 in
set_option maxRecDepth 100000 in
theorem rfind_calls (a : Option Addr) (c : Nat) (xs : List SIn) (name : ByteArray) (w : World) (hv : SRow w a xs) (hl : xs.length ≤ maxLen) :
    Calls Try.prog 18 #[.slice a xs.length c, .string name] w (SchemaQ w (findS xs name)) := by
  have hb0 : Below w.heap.size w (w.alloc (.cells #[.string ⟨#[]⟩, .slice none 0 0] 31)) := (Below.refl _ _).alloc (Nat.le_refl _) _
  have HV := Lib.hid (hv.below hb0)
  have HV0 := Lib.hid hv
  obtain ⟨l, hll⟩ : ∃ l, xs.length = l := ⟨_, rfl⟩
  have Hl := Lib.hid hll
  rw [hll] at hl ⊢
  have HB := Lib.hid hb0
  have x0 : (w.alloc (.cells #[.string ⟨#[]⟩, .slice none 0 0] 31)).cell? ⟨w.heap.size, 0, none⟩ = some (.string ⟨#[]⟩) := by simp
  have x1 : (w.alloc (.cells #[.string ⟨#[]⟩, .slice none 0 0] 31)).cell? ⟨w.heap.size, 1, none⟩ = some (.slice none 0 0) := by simp
  have f0 : (w.alloc (.cells #[.string ⟨#[]⟩, .slice none 0 0] 31)).frozen? ⟨w.heap.size, 0, none⟩ = false := by simp
  have f1 : (w.alloc (.cells #[.string ⟨#[]⟩, .slice none 0 0] 31)).frozen? ⟨w.heap.size, 1, none⟩ = false := by simp
  unfold maxLen at hl
  clear hv hll hb0
  go_enter Try.func18, Try.ntmps18
  go_wp2_with fail
  generalize w.alloc (.cells #[.string ⟨#[]⟩, .slice none 0 0] 31) = w0 at *
  go_loop [6] (fun i => ∃ k : Nat, i = .int .i64 k ∧ k ≤ l ∧ Hid (NoneTo xs (fun x => nameIs name x.name) k)) (fun i => l - (intOf i).toNat)
  case atStart => exact ⟨0, rfl, Nat.zero_le _, fun j x hj => by omega⟩
  case round =>
    obtain ⟨k, rfl, hk, HR⟩ := hrel
    by_cases hlt : k < l
    · obtain ⟨x, hx⟩ : ∃ x, xs[k]? = some x := ⟨_, List.getElem?_eq_getElem (by rw [Hl.out]; exact hlt)⟩
      obtain ⟨A, rfl, _, _, hfr0, _⟩ := HV0.out k x hx
      obtain ⟨A', eA, c0, c1, hfr, _⟩ := HV.out k x hx
      injection eA with eA
      subst eA
      unfold efld at c1
      have hk0 : (0 : Int) ≤ (k : Int) := by omega
      have hk1 : (k : Int) < (l : Int) := by omega
      cases hr : nameIs name x.name with
      | false =>
        have hst := Lib.hid (HR.out.step hx hr)
        have hr' : (x.name.toList == name.toList) = false := hr
        obtain ⟨xn, fa, fc, fs⟩ := x
        dsimp only at c0 c1 hr'
        clear hx hr hfr hfr0
        go_wp2
        go_round
        case rel => exact ⟨k + 1, by go_num, by omega, hst⟩
        case measure => simp [intOf]; omega
      | true =>
        have hno := Lib.hid (findS_some (idx_hit (q := fun x : SIn => nameIs name x.name) hx hr HR.out) hx)
        have hr' : (x.name.toList == name.toList) = true := hr
        obtain ⟨xn, fa, fc, fs⟩ := x
        dsimp only at c0 c1 hr' hno hfr hfr0
        have HFr := Lib.hid hfr
        have HSep : Hid (fs = [] ∨ ∀ A, fa = some A → A.block ≠ w.heap.size) := by
          cases fs with
          | nil => exact .inl rfl
          | cons y t =>
            refine .inr fun B hB => ?_
            obtain ⟨B', e, hc, _⟩ := hfr0 0 y rfl
            rw [hB] at e
            injection e with e
            subst e
            have h9 := World.block_lt_of_cell? _ _ hc
            rw [fadd_block] at h9
            omega
        clear hx hr hfr hfr0
        go_wp2
        refine bodyPost_ret (v := .tuple #[.agg #[.string xn, .slice fa fs.length fc], .bool true]) (by simp [results, Try.results18, go_sem, x0, x1]) rfl ⟨xn, fa, fc, fs, by rw [hno.out]; rfl, by rw [hno.out]; rfl, by rw [hno.out]; rfl, ?_, below2 HB.out (Nat.le_refl _) _ _⟩
        rcases HSep.out with rfl | hsep
        · exact fun j y hj => by simp at hj
        · iterate 2 (refine FRow.set ?_ _ hsep)
          exact HFr.out
    · obtain rfl : k = l := by omega
      have hno := Lib.hid (findS_none (idx_miss (q := fun x : SIn => nameIs name x.name) (xs := xs) (by rw [Hl.out]; exact HR.out)))
      go_wp2
      refine bodyPost_ret (v := .tuple #[.agg #[.string ⟨#[]⟩, .slice none 0 0], .bool false]) (by simp [results, Try.results18, go_sem, x0, x1]) rfl ⟨⟨#[]⟩, none, 0, [], by rw [hno.out]; rfl, by rw [hno.out]; rfl, by rw [hno.out]; rfl, fun j y hj => by simp at hj, below2 HB.out (Nat.le_refl _) _ _⟩

end Go.Proofs.Ytppgecbjdkfohaa
