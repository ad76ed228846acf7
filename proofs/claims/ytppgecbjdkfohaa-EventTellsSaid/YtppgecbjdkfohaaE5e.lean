/- Events: rows of fields and of schemas; place, Field. -/
import Derived.Test.YtppgecbjdkfohaaE4e
namespace Go.Proofs.Ytppgecbjdkfohaa
open Go.RowKit Go.Lib Go.Op

/-- A field, as it was handed in. -/
abbrev FIn := ByteArray × Int
def FRow (w : World) (a : Option Addr) (fs : List FIn) : Prop := ∀ j x, fs[j]? = some x → ∃ A, a = some A ∧ w.cell? (A.add (j * 2)) = some (.string x.1) ∧ w.cell? (efld A 2 j 1) = some (.int .i64 x.2) ∧ x.1.size ≤ maxLen

theorem FRow.below {w w' : World} {a : Option Addr} {fs : List FIn} (h : FRow w a fs) (hb : Below w.heap.size w w') : FRow w' a fs := fun j x hj => by
  obtain ⟨A, h1, h2, h3, h4⟩ := h j x hj
  exact ⟨A, h1, ekeep hb h2, ekeep hb h3, h4⟩

/-- A schema, as it was handed in. -/
structure SIn where
  name : ByteArray
  fa : Option Addr
  fc : Nat
  fs : List FIn

def SRow (w : World) (a : Option Addr) (l : List SIn) : Prop := ∀ j x, l[j]? = some x → ∃ A, a = some A ∧ w.cell? (A.add (j * 2)) = some (.string x.name) ∧ w.cell? (efld A 2 j 1) = some (.slice x.fa x.fs.length x.fc) ∧ FRow w x.fa x.fs ∧ x.fs.length ≤ maxLen ∧ x.name.size ≤ maxLen

theorem SRow.below {w w' : World} {a : Option Addr} {l : List SIn} (h : SRow w a l) (hb : Below w.heap.size w w') : SRow w' a l := fun j x hj => by
  obtain ⟨A, h1, h2, h3, h4, h5⟩ := h j x hj
  exact ⟨A, h1, ekeep hb h2, ekeep hb h3, h4.below hb, h5⟩

/-- The place of the first one, -1 if there is none. -/
def idxI {α : Type} (xs : List α) (q : α → Bool) : Int := match xs.findIdx? q with
  | some k => (k : Int)
  | none => -1

/-- None of those that were looked at. -/
def NoneTo {α : Type} (xs : List α) (q : α → Bool) (k : Nat) : Prop := ∀ j y, j < k → xs[j]? = some y → q y = false
theorem NoneTo.step {α : Type} {xs : List α} {q : α → Bool} {k : Nat} (h : NoneTo xs q k) {x : α} (hk : xs[k]? = some x) (hx : q x = false) : NoneTo xs q (k + 1) := fun j y hj hy => by
  by_cases e : j = k
  · subst e
    rw [hk] at hy
    injection hy with hy
    rw [← hy]; exact hx
  · exact h j y (by omega) hy

theorem idx_hit {α : Type} {xs : List α} {q : α → Bool} {k : Nat} {x : α} (h : xs[k]? = some x) (hq : q x = true) (hb : NoneTo xs q k) : xs.findIdx? q = some k := by
  obtain ⟨hk, rfl⟩ := List.getElem?_eq_some_iff.1 h
  rw [List.findIdx?_eq_some_iff_getElem]
  exact ⟨hk, hq, fun j hj => by simp [hb j _ hj (List.getElem?_eq_getElem (by omega))]⟩
theorem idx_miss {α : Type} {xs : List α} {q : α → Bool} (hb : NoneTo xs q xs.length) : xs.findIdx? q = none := by
  rw [List.findIdx?_eq_none_iff]
  intro x hx
  obtain ⟨j, hj, rfl⟩ := List.mem_iff_getElem.1 hx
  exact hb j _ hj (List.getElem?_eq_getElem hj)
theorem idxI_some {α : Type} {xs : List α} {q : α → Bool} {k : Nat} (h : xs.findIdx? q = some k) : idxI xs q = k := by unfold idxI; rw [h]
theorem idxI_none {α : Type} {xs : List α} {q : α → Bool} (h : xs.findIdx? q = none) : idxI xs q = -1 := by unfold idxI; rw [h]

/-- Is that its name? -/
def nameIs (name s : ByteArray) : Bool := s.toList == name.toList

set_option maxRecDepth 100000 in
theorem place1_calls (name s : ByteArray) (fv : Value) (nb : Nat) (w : World) (hc : w.cell? ⟨nb, 0, none⟩ = some (.string name)) :
    Calls Try.prog 78 #[.agg #[.string s, fv], .pointer (some ⟨nb, 0, none⟩)] w fun e w' => e = .returned (.bool (nameIs name s)) ∧ Below w.heap.size w w' := by
  have hc2 := ekeepAl (.cells #[.string s, fv] 31) hc
  go_enter Try.func78, Try.ntmps78
  go_wp2
  go_ret
  exact ⟨rfl, (Below.refl _ _).alloc (Nat.le_refl _) _⟩

set_option maxRecDepth 100000 in
theorem field1_calls (name s : ByteArray) (k : Int) (nb : Nat) (w : World) (hc : w.cell? ⟨nb, 0, none⟩ = some (.string name)) :
    Calls Try.prog 51 #[.agg #[.string s, .int .i64 k], .pointer (some ⟨nb, 0, none⟩)] w fun e w' => e = .returned (.bool (nameIs name s)) ∧ Below w.heap.size w w' := by
  have hc2 := ekeepAl (.cells #[.string s, .int .i64 k] 55) hc
  go_enter Try.func51, Try.ntmps51
  go_wp2
  go_ret
  exact ⟨rfl, (Below.refl _ _).alloc (Nat.le_refl _) _⟩

set_option maxHeartbeats 2000000 in
set_option maxRecDepth 100000 in
theorem indexS_calls (a : Option Addr) (c : Nat) (xs : List SIn) (name : ByteArray) (nb : Nat) (w : World) (hv : SRow w a xs) (hl : xs.length ≤ maxLen) (hc : w.cell? ⟨nb, 0, none⟩ = some (.string name)) :
    Calls Try.prog 77 #[.slice a xs.length c, .func (.func 78) #[] #[.pointer (some ⟨nb, 0, none⟩)]] w fun e w' => e = .returned (.int .i64 (idxI xs fun x => nameIs name x.name)) ∧ Below w.heap.size w w' := by
  have HV := Lib.hid hv
  have HC := Lib.hid hc
  obtain ⟨l, hll⟩ : ∃ l, xs.length = l := ⟨_, rfl⟩
  rw [hll] at hl ⊢
  have Hl := Lib.hid hll
  unfold maxLen at hl
  clear hv hll hc
  go_enter Try.func77, Try.ntmps77
  go_wp2
  go_loopw [5, 8] (fun x i wr => ∃ k : Nat, i = .int .i64 k ∧ k ≤ l ∧ Hid (NoneTo xs (fun x => nameIs name x.name) k) ∧ Hid (Below w.heap.size w wr)) (fun _ i _ => l - (intOf i).toNat)
  case atStart => exact ⟨0, rfl, Nat.zero_le _, fun j x hj => by omega, Below.refl _ _⟩
  case round =>
    obtain ⟨k, rfl, hk, HR, HB⟩ := hrel
    by_cases hlt : k < l
    · obtain ⟨x, hx⟩ : ∃ x, xs[k]? = some x := ⟨_, List.getElem?_eq_getElem (by rw [Hl.out]; exact hlt)⟩
      obtain ⟨A, rfl, c0, c1, _, _, _⟩ := (HV.out.below HB.out) k x hx
      have hcall := place1_calls name x.name (.slice x.fa x.fs.length x.fc) nb wr (ekeep HB.out HC.out)
      unfold efld at c1
      cases hr : nameIs name x.name with
      | false =>
        have hst := Lib.hid (HR.out.step hx hr)
        rw [hr] at hcall
        obtain ⟨nm, fa, fc, fs⟩ := x
        dsimp only at c0 c1 hcall
        clear hx hr
        go_wp2_with (go_at_call 78; refine hcall.mono ?_; rintro e w1 ⟨rfl, hb1⟩)
        have HB1 : Hid (Below w.heap.size w w1) := HB.out.trans (hb1.mono HB.out.size)
        clear hcall
        go_roundw
        case rel => exact ⟨k + 1, by go_num, by omega, hst, HB1⟩
        case measure => simp [intOf]; omega
      | true =>
        have hno := Lib.hid (idxI_some (idx_hit (q := fun x => nameIs name x.name) hx hr HR.out))
        rw [hr] at hcall
        obtain ⟨nm, fa, fc, fs⟩ := x
        dsimp only at c0 c1 hcall
        clear hx hr
        go_wp2_with (go_at_call 78; refine hcall.mono ?_; rintro e w1 ⟨rfl, hb1⟩)
        have HB1 : Hid (Below w.heap.size w w1) := HB.out.trans (hb1.mono HB.out.size)
        go_ret
        exact ⟨by rw [hno.out]; rfl, HB1.out⟩
    · obtain rfl : k = l := by omega
      have hall := Lib.hid (idxI_none (idx_miss (q := fun x => nameIs name x.name) (xs := xs) (by rw [Hl.out]; exact HR.out)))
      go_wp2
      go_ret
      exact ⟨by rw [hall.out]; rfl, HB.out⟩

set_option maxHeartbeats 2000000 in
set_option maxRecDepth 100000 in
theorem indexF_calls (a : Option Addr) (c : Nat) (xs : List FIn) (name : ByteArray) (nb : Nat) (w : World) (hv : FRow w a xs) (hl : xs.length ≤ maxLen) (hc : w.cell? ⟨nb, 0, none⟩ = some (.string name)) :
    Calls Try.prog 50 #[.slice a xs.length c, .func (.func 51) #[] #[.pointer (some ⟨nb, 0, none⟩)]] w fun e w' => e = .returned (.int .i64 (idxI xs fun x => nameIs name x.1)) ∧ Below w.heap.size w w' := by
  have HV := Lib.hid hv
  have HC := Lib.hid hc
  obtain ⟨l, hll⟩ : ∃ l, xs.length = l := ⟨_, rfl⟩
  rw [hll] at hl ⊢
  have Hl := Lib.hid hll
  unfold maxLen at hl
  clear hv hll hc
  go_enter Try.func50, Try.ntmps50
  go_wp2
  go_loopw [5, 8] (fun x i wr => ∃ k : Nat, i = .int .i64 k ∧ k ≤ l ∧ Hid (NoneTo xs (fun x => nameIs name x.1) k) ∧ Hid (Below w.heap.size w wr)) (fun _ i _ => l - (intOf i).toNat)
  case atStart => exact ⟨0, rfl, Nat.zero_le _, fun j x hj => by omega, Below.refl _ _⟩
  case round =>
    obtain ⟨k, rfl, hk, HR, HB⟩ := hrel
    by_cases hlt : k < l
    · obtain ⟨x, hx⟩ : ∃ x, xs[k]? = some x := ⟨_, List.getElem?_eq_getElem (by rw [Hl.out]; exact hlt)⟩
      obtain ⟨A, rfl, c0, c1, _⟩ := (HV.out.below HB.out) k x hx
      have hcall := field1_calls name x.1 x.2 nb wr (ekeep HB.out HC.out)
      unfold efld at c1
      cases hr : nameIs name x.1 with
      | false =>
        have hst := Lib.hid (HR.out.step hx hr)
        rw [hr] at hcall
        obtain ⟨nm, kd⟩ := x
        dsimp only at c0 c1 hcall
        clear hx hr
        go_wp2_with (go_at_call 51; refine hcall.mono ?_; rintro e w1 ⟨rfl, hb1⟩)
        have HB1 : Hid (Below w.heap.size w w1) := HB.out.trans (hb1.mono HB.out.size)
        clear hcall
        go_roundw
        case rel => exact ⟨k + 1, by go_num, by omega, hst, HB1⟩
        case measure => simp [intOf]; omega
      | true =>
        have hno := Lib.hid (idxI_some (idx_hit (q := fun x => nameIs name x.1) hx hr HR.out))
        rw [hr] at hcall
        obtain ⟨nm, kd⟩ := x
        dsimp only at c0 c1 hcall
        clear hx hr
        go_wp2_with (go_at_call 51; refine hcall.mono ?_; rintro e w1 ⟨rfl, hb1⟩)
        have HB1 : Hid (Below w.heap.size w w1) := HB.out.trans (hb1.mono HB.out.size)
        go_ret
        exact ⟨by rw [hno.out]; rfl, HB1.out⟩
    · obtain rfl : k = l := by omega
      have hall := Lib.hid (idxI_none (idx_miss (q := fun x => nameIs name x.1) (xs := xs) (by rw [Hl.out]; exact HR.out)))
      go_wp2
      go_ret
      exact ⟨by rw [hall.out]; rfl, HB.out⟩

set_option maxRecDepth 100000 in
theorem place_calls (a : Option Addr) (c : Nat) (xs : List SIn) (name : ByteArray) (w : World) (hv : SRow w a xs) (hl : xs.length ≤ maxLen) :
    Calls Try.prog 48 #[.slice a xs.length c, .string name] w fun e w' => e = .returned (.int .i64 (idxI xs fun x => nameIs name x.name)) ∧ Below w.heap.size w w' := by
  have hc := indexS_calls a c xs name w.heap.size (w.alloc (.cells #[.string name] 9)) (hv.below ((Below.refl _ _).alloc (Nat.le_refl _) _)) hl (by simp)
  generalize (idxI xs fun x => nameIs name x.name) = z at hc ⊢
  go_enter Try.func48, Try.ntmps48
  go_wp2_with (go_at_call 77; refine hc.mono ?_; rintro e w1 ⟨rfl, hb1⟩)
  go_ret
  exact ⟨rfl, ((Below.refl _ _).alloc (Nat.le_refl _) _).trans (hb1.mono (by simp))⟩

/-- What Field answers. -/
def fieldI (fs : List FIn) (name : ByteArray) : Int × Int := match fs.findIdx? fun x => nameIs name x.1 with
  | some k => ((k : Int), (fs[k]?.map (·.2)).getD 0)
  | none => (-1, 0)

theorem fieldI_none {fs : List FIn} {name : ByteArray} (h : fs.findIdx? (fun x => nameIs name x.1) = none) : fieldI fs name = (-1, 0) := by unfold fieldI; rw [h]
theorem fieldI_some {fs : List FIn} {name : ByteArray} {k : Nat} {x : FIn} (h : fs.findIdx? (fun x => nameIs name x.1) = some k) (hx : fs[k]? = some x) : fieldI fs name = ((k : Int), x.2) := by unfold fieldI; rw [h]; simp [hx]
theorem find_at {α : Type} {xs : List α} {q : α → Bool} {k : Nat} (h : xs.findIdx? q = some k) : ∃ x, xs[k]? = some x ∧ k < xs.length ∧ q x = true := by
  rw [List.findIdx?_eq_some_iff_getElem] at h
  obtain ⟨hk, hq, _⟩ := h
  exact ⟨_, List.getElem?_eq_getElem hk, hk, hq⟩

set_option maxHeartbeats 2000000 in
set_option maxRecDepth 100000 in
theorem field_calls (nm : ByteArray) (a : Option Addr) (c : Nat) (xs : List FIn) (name : ByteArray) (w : World) (hv : FRow w a xs) (hl : xs.length ≤ maxLen) :
    Calls Try.prog 19 #[.agg #[.string nm, .slice a xs.length c], .string name] w fun e w' => e = .returned (.tuple #[.int .i64 (fieldI xs name).1, .int .i64 (fieldI xs name).2]) ∧ Below w.heap.size w w' := by
  have hc := indexF_calls a c xs name (w.heap.size + 1) ((w.alloc (.cells #[.string nm, .slice a xs.length c] 31)).alloc (.cells #[.string name] 9)) (hv.below (by repeat' (first | exact Below.refl _ _ | refine Below.alloc ?_ (by simp <;> omega) _))) hl (by simp)
  have HV := Lib.hid hv
  obtain ⟨l, hll⟩ : ∃ l, xs.length = l := ⟨_, rfl⟩
  rw [hll] at hl hc ⊢
  have Hl := Lib.hid hll
  unfold maxLen at hl
  clear hv hll
  cases hf : xs.findIdx? (fun x => nameIs name x.1) with
  | none =>
    rw [idxI_none hf] at hc
    rw [fieldI_none hf]
    clear hf
    go_enter Try.func19, Try.ntmps19
    go_wp2_with (go_at_call 50; refine hc.mono ?_; rintro e w1 ⟨rfl, hb1⟩)
    refine bodyPost_ret (v := .tuple #[.int .i64 (-1), .int .i64 0]) (by simp [results, Try.results19, go_sem]) rfl ⟨rfl, ?_⟩
    exact (show Below w.heap.size w _ by repeat' (first | exact Below.refl _ _ | refine Below.alloc ?_ (by simp <;> omega) _)).trans (hb1.mono (by simp <;> omega))
  | some k =>
    obtain ⟨x, hx, hk, _⟩ := find_at hf
    rw [idxI_some hf] at hc
    rw [fieldI_some hf hx]
    rw [Hl.out] at hk
    have Hx := Lib.hid hx
    clear hf hx
    go_enter Try.func19, Try.ntmps19
    go_upto_region 4 with (go_at_call 50; refine hc.mono ?_; rintro e w1 ⟨rfl, hb1⟩)
    have x1 : w1.cell? ⟨w.heap.size, 1, none⟩ = some (.slice a l c) := ekeep hb1 (by simp)
    have hB1 : Below w.heap.size w w1 := (show Below w.heap.size w _ by repeat' (first | exact Below.refl _ _ | refine Below.alloc ?_ (by simp <;> omega) _)).trans (hb1.mono (by simp <;> omega))
    obtain ⟨A, rfl, c0, c1, _⟩ := (HV.out.below hB1) k x Hx.out
    have HB1 := Lib.hid hB1
    obtain ⟨xn, xk⟩ := x
    dsimp only at c0 c1
    unfold efld at c1
    clear hc hb1 hB1
    have hk0 : (0 : Int) ≤ (k : Int) := by omega
    have hk1 : (k : Int) < (l : Int) := by omega
    go_quiet (fail)
    go_wp2_with fail
    refine bodyPost_ret (v := .tuple #[.int .i64 k, .int .i64 xk]) (by simp [results, Try.results19, go_sem]) rfl ⟨rfl, ?_⟩
    exact vbelow_drewN HB1.out _

end Go.Proofs.Ytppgecbjdkfohaa
